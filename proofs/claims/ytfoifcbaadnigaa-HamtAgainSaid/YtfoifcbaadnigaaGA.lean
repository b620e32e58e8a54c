/-
  Texts in one: Base Box Open Flat Ref Node Parts Eq.
-/
import Derived.Below
import Derived.Laws.OwnMore
import Derived.Maps.AppendAt
import Derived.Deep.AppendLies
import Derived.Deep.Draws
import Derived.Laws.Rows
import Derived.OwnWalk
import Derived.Laws.NewBlocks
import Derived.Lib.Hide
import Derived.ProofKit
import Derived.Lib.SmallJoins
import Derived.Test.YtfoifcbaadnigaaProg
import Derived.WalkKit
import Derived.WalkSpells
import Derived.WalkLawsBesides
import Derived.Outline
import Derived.OpenShut
import Derived.Laws.Wrap64
import Derived.Laws.StructEq
import Derived.Laws.Cells
import Derived.Deep.MidRow
import Derived.Deep.WholeRow
import Derived.BigFrame

/-
  Words for memory that this verifier's proofs share: what a slice value shows in a world, and that it goes on showing it while old blocks stay.
-/
set_option linter.unusedVariables false
set_option linter.unusedSimpArgs false
namespace Go.Proofs.Ytfoifcbaadnigaa
open Go.RowKit

/-- All blocks of w are in w' as they were. -/
abbrev Ext (w w' : World) : Prop := Below w.heap.size w w'

theorem Ext.refl (w : World) : Ext w w := Below.refl _ _
theorem Ext.step {a b c : World} (h : Ext a b) (k : Ext b c) : Ext a c := h.trans (k.mono h.size)
theorem Ext.new {a b : World} (h : Ext a b) (o : Obj) : Ext a (b.alloc o) := Below.alloc h h.size o
theorem Ext.drewN {a b : World} (h : Ext a b) (k : Nat) : Ext a (b.drewN k) := ⟨h.os, h.tape, h.output, h.size, h.block⟩
theorem Ext.cellOf {w w' : World} (h : Ext w w') {p : Addr} {v : Value} (hc : w.cell? p = some v) : w'.cell? p = some v :=
  (h.cell (World.block_lt_of_cell? w p hc)).trans hc
theorem Ext.thaw {w w' : World} (h : Ext w w') {p : Addr} (hp : p.block < w.heap.size) (hc : w.frozen? p = false) : w'.frozen? p = false :=
  (h.frozen hp).trans hc

theorem addr_block (a : Addr) (n : Nat) : (a.add n).block = a.block := by
  unfold Addr.add
  split <;> rfl
theorem addr_add (a : Addr) (i j : Nat) : (a.add i).add j = a.add (i + j) := by
  unfold Addr.add
  by_cases hi : i = 0
  · simp [hi]
  · by_cases hj : j = 0
    · simp [hj]
    · simp [hi, hj, Nat.add_assoc]

/-- In w the slice value with address A and n elements, of 'size' cells each, shows the cells xs. -/
def Rd (w : World) (size : Nat) (A : Option Addr) (n : Nat) (xs : List Value) : Prop :=
  xs.length = n * size ∧ ∀ j u, xs[j]? = some u → ∃ ad, A = some ad ∧ w.cell? (ad.add j) = some u

section
variable {w w' : World} {size n : Nat} {A : Option Addr} {xs : List Value}
theorem Rd.nil (w : World) (size : Nat) (A : Option Addr) : Rd w size A 0 [] := ⟨by simp, fun j u h => by simp at h⟩
theorem Rd.to (h : Rd w size A n xs) (e : Ext w w') : Rd w' size A n xs :=
  ⟨h.1, fun j u hu => by obtain ⟨ad, ha, hc⟩ := h.2 j u hu; exact ⟨ad, ha, e.cellOf hc⟩⟩
theorem Rd.cells {ad : Addr} (h : Rd w size (some ad) n xs) : ∀ j u, xs[j]? = some u → w.cell? (ad.add j) = some u := fun j u hu => by
  obtain ⟨ad', ha, hc⟩ := h.2 j u hu
  injection ha with ha
  subst ha
  exact hc
theorem Rd.some_ (h : Rd w size A n xs) (hn : 0 < n) (hs : 0 < size) : ∃ ad, A = some ad := by
  have hl : 0 < xs.length := by rw [h.1]; exact Nat.mul_pos hn hs
  obtain ⟨ad, ha, _⟩ := h.2 0 _ (List.getElem?_eq_getElem hl)
  exact ⟨ad, ha⟩
theorem Rd.take (h : Rd w size A n xs) {k : Nat} (hk : k ≤ n) : Rd w size A k (xs.take (k * size)) :=
  ⟨by rw [List.length_take, h.1]; exact Nat.min_eq_left (Nat.mul_le_mul_right _ hk), fun j u hu => h.2 j u (by
    rw [List.getElem?_take] at hu
    split at hu
    · exact hu
    · cases hu)⟩
theorem Rd.own {base : Nat} {e : TypeId} {c : Nat} (h : w.ownsRow base e size (.slice A n c) n xs) : Rd w size A n xs := by
  refine ⟨h.1, fun j u hu => ?_⟩
  rcases h.2 with ⟨hv, rfl⟩ | ⟨g, cap, cur, hv, _⟩
  · have hx : xs = [] := List.eq_nil_of_length_eq_zero (by simpa using h.1)
    subst hx
    simp at hu
  · have hA : A = some ⟨g, 0, none⟩ := by injection hv
    subst hA
    exact ⟨_, rfl, h.cells (g := g) rfl j u hu⟩
theorem Rd.lit (w : World) (cs : Array Value) (e : TypeId) (n : Nat) (hs : cs.size = n * size) :
    Rd (w.alloc (.cells cs e)) size (some ⟨w.heap.size, 0, none⟩) n cs.toList :=
  ⟨by simpa using hs, fun j u hu => ⟨_, rfl, by
    have : (⟨w.heap.size, 0, none⟩ : Addr).add j = ⟨w.heap.size, j, none⟩ := by
      unfold Addr.add; split <;> simp_all
    rw [this, World.cell?_alloc_at _ _ _ _ rfl]
    simpa using hu⟩⟩
end

theorem own_slice {w : World} {base : Nat} {e : TypeId} {size n : Nat} {v : Value} {xs : List Value} (h : w.ownsRow base e size v n xs) : ∃ A c, v = .slice A n c := by
  rcases h.2 with ⟨rfl, rfl⟩ | ⟨g, cap, cur, rfl, _⟩
  · exact ⟨_, _, rfl⟩
  · exact ⟨_, _, rfl⟩

/-- uint64s as cells. -/
def Us (zs : List Int) : List Value := zs.map (Value.int .u64)
theorem Us_length (zs : List Int) : (Us zs).length = zs.length := by simp [Us]
theorem Us_get (zs : List Int) (j : Nat) : (Us zs)[j]? = (zs[j]?).map (Value.int .u64) := by simp [Us]
theorem Us_take (zs : List Int) (k : Nat) : (Us zs).take k = Us (zs.take k) := by simp [Us]
theorem Us_set (zs : List Int) (j : Nat) (x : Int) : (Us zs).set j (.int .u64 x) = Us (zs.set j x) := by simp [Us]
theorem Us_one (zs : List Int) : ∀ u ∈ Us zs, u.oneCell' = true := ints_oneCell .u64 zs

/-- The i-th of some numbers. -/
def ith (zs : List Int) (i : Nat) : Int := zs.getD i 0
theorem ith_of (zs : List Int) {i : Nat} (h : i < zs.length) : zs[i]? = some (ith zs i) := by
  unfold ith
  rw [List.getD_eq_getElem?_getD, List.getElem?_eq_getElem h]
  rfl

section
variable {w : World} {n : Nat} {zs : List Int}
theorem Rd.u64len {A : Option Addr} (h : Rd w 1 A n (Us zs)) : zs.length = n := by have := h.1; simpa [Us] using this
theorem Rd.u64at {A : Option Addr} (h : Rd w 1 A n (Us zs)) {j : Nat} (hj : j < n) : (Us zs)[j]? = some (.int .u64 (ith zs j)) := by
  rw [Us_get, ith_of zs (by rw [h.u64len]; exact hj)]
  rfl
theorem Rd.u64 {ad : Addr} (h : Rd w 1 (some ad) n (Us zs)) {j : Nat} (hj : j < n) : w.cell? (ad.add j) = some (.int .u64 (ith zs j)) :=
  h.cells j _ (h.u64at hj)
end

/-- append of what a slice shows, to a row of the call's own. -/
theorem run_append_rd {P : Program} (w : World) (base : Nat) (t ty e : TypeId) (i : TypeInfo) (z : Value) (size bytes : Nat) (ht : P.underlying t = some (.slice e)) (hi : P.info? e = some i)
    (hz : i.zero = some z) (hsize : i.size = size) (hby : i.bytes = bytes) (hzs : z.cells.size = size) (hsz : 0 < size)
    (v : Value) (n : Nat) (xs : List Value) (hown : w.ownsRow base e size v n xs)
    (A : Option Addr) (m c : Nat) (news : List Value) (hr : Rd w size A m news) (h1 : ∀ u ∈ news, u.oneCell' = true)
    (h63 : n + m ≤ maxLen) (hbytes : (n + m) * bytes ≤ 140737488355328) (hbase : base ≤ w.heap.size) :
    ∃ v' w', (Builtin.append_ #[t, t] ty #[v, .slice A m c]).run P w = .ok v' w' ∧ w'.ownsRow base e size v' (n + m) (xs ++ news) ∧ w.grownBy w' v.ownBlock ∧
      (v'.ownBlock = v.ownBlock ∨ v'.ownBlock = some w.heap.size) := by
  cases A with
  | none =>
    have hm : m = 0 := by
      rcases Nat.eq_zero_or_pos m with h | h
      · exact h
      · obtain ⟨ad, h'⟩ := hr.some_ h hsz
        cases h'
    subst hm
    have hn : news = [] := List.eq_nil_of_length_eq_zero (by simpa using hr.1)
    subst hn
    refine ⟨v, w, ?_, by simpa using hown, World.grownBy.refl w _, .inl rfl⟩
    rcases hown.2 with ⟨rfl, rfl⟩ | ⟨g, cap, cur, rfl, _, _, hnc, _⟩
    · simp [Builtin.append_, run_underlying ht, sizeOf, typeInfo, hi, Builtin.lenOf, Builtin.firstCells]
    · simp [Builtin.append_, run_underlying ht, sizeOf, typeInfo, hi, Builtin.lenOf, Builtin.firstCells, hnc, storeCells]
  | some ad =>
    obtain ⟨v', w', a1, a2, a3, _, a5⟩ := run_append_own_at (P := P) w base t ty e i z size bytes ht hi hz hsize hby hzs hsz v n xs hown ad m c news hr.1 hr.cells h1 h63 hbytes hbase
    exact ⟨v', w', a1, a2, a3, a5⟩

theorem wpList_append_rd {P : Program} (w : World) {ops : Array Oper} {rest : List Oper} {o : Oper} {a : Act} {Q : Exit → Act → World → Prop} (hgd : o.guard = none) (s x : Operand) (t : TypeId)
    (ho : o.op = .call { callee := .builtin .append, args := #[s, x], argTypes := #[t, t] })
    (base : Nat) (e : TypeId) (i : TypeInfo) (z : Value) (size bytes : Nat) (ht : P.underlying t = some (.slice e)) (hi : P.info? e = some i) (hz : i.zero = some z)
    (hsize : i.size = size) (hby : i.bytes = bytes) (hzs : z.cells.size = size) (hsz : 0 < size)
    (v : Value) (n : Nat) (xs : List Value) (hs : a.eval s = v) (hown : w.ownsRow base e size v n xs)
    (A : Option Addr) (m c : Nat) (news : List Value) (hx : a.eval x = .slice A m c) (hr : Rd w size A m news) (h1 : ∀ u ∈ news, u.oneCell' = true)
    (h63 : n + m ≤ maxLen) (hbytes : (n + m) * bytes ≤ 140737488355328) (hbase : base ≤ w.heap.size)
    (h : ∀ v' w', w'.ownsRow base e size v' (n + m) (xs ++ news) → w.grownBy w' v.ownBlock → (v'.ownBlock = v.ownBlock ∨ v'.ownBlock = some w.heap.size) → wpList P ops Q rest (a.put o.dst v') w') :
    wpList P ops Q (o :: rest) a w := by
  refine wpList_plain hgd fun K hK => ?_
  obtain ⟨v', w', hrun, h2, h3, h4⟩ := run_append_rd (P := P) w base t o.type e i z size bytes ht hi hz hsize hby hzs hsz v n xs hown A m c news hr h1 h63 hbytes hbase
  unfold Oper.wp execOp
  simp only [ho, resolve, invoke, builtin, Sem.run_bind, Sem.run_pure, Result.andThen_ok, List.map_toArray, List.map_cons, List.map_nil, hs, hx, hrun]
  exact hK _ _ (h v' w' h2 h3 h4)

/-- The new row of an append is one of the call's own. -/
theorem own_back {w w' : World} {v : Value} {base : Nat} {a : World} (h : Below base a w) (hb : base ≤ w.heap.size) (hg : w.grownBy w' v.ownBlock) (hv : ∀ k, v.ownBlock = some k → base ≤ k) : Below base a w' :=
  h.grown hg hb hv

end Go.Proofs.Ytfoifcbaadnigaa

/-
  A block of the call's own that is known whole, and what only it turns.
-/
set_option linter.unusedVariables false
set_option linter.unusedSimpArgs false
namespace Go.Proofs.Ytfoifcbaadnigaa
open Go.RowKit

/-- Block b of W holds these cells, and may be written. -/
structure Bx (W : World) (b : Nat) (cs : Array Value) : Prop where
  lt : b < W.heap.size
  cell : ∀ j, W.cell? ⟨b, j, none⟩ = cs[j]?
  free : ∀ j, W.frozen? ⟨b, j, none⟩ = false
theorem Bx.new (W : World) (cs : Array Value) (t : TypeId) : Bx (W.alloc (.cells cs t)) W.heap.size cs :=
  ⟨by simp, fun j => World.cell?_alloc_at _ _ _ _ rfl, fun j => World.frozen?_alloc_at _ _ _ _ rfl⟩
theorem Bx.to {W W' : World} {b : Nat} {cs : Array Value} (h : Bx W b cs) (hx : Ext W W') : Bx W' b cs :=
  ⟨Nat.lt_of_lt_of_le h.lt hx.size, fun j => (hx.cell (p := ⟨b, j, none⟩) h.lt).trans (h.cell j), fun j => (hx.frozen (p := ⟨b, j, none⟩) h.lt).trans (h.free j)⟩
theorem Bx.alloc {W : World} {b : Nat} {cs : Array Value} (h : Bx W b cs) (o : Obj) : Bx (W.alloc o) b cs := h.to ((Ext.refl W).new o)
theorem Bx.fresh {W W' : World} {cs : Array Value} {t : TypeId} (hx : Ext (W.alloc (.cells cs t)) W') : Bx W' W.heap.size cs := (Bx.new W cs t).to hx

/-- From W to W' only block b has turned, and what is new. -/
def Only (b : Nat) (W W' : World) : Prop := W.grownBy W' (some b)
theorem Only.refl (b : Nat) (W : World) : Only b W W := World.grownBy.refl W _
theorem Only.ext {b : Nat} {W W' W'' : World} (h : Only b W W') (hx : Ext W' W'') : Only b W W'' :=
  ⟨hx.os.trans h.os, hx.tape.trans h.tape, hx.output.trans h.output, Nat.le_trans h.size hx.size, fun k hk hn => (hx.block k (Nat.lt_of_lt_of_le hk h.size)).trans (h.block k hk hn)⟩
theorem Only.set {b : Nat} {W W' : World} (h : Only b W W') (j : Nat) (u : Value) : Only b W (W'.setCell ⟨b, j, none⟩ u) :=
  ⟨h.os, h.tape, h.output, by simpa [World.setCell] using h.size, fun k hk hn => (Below.heap_setCell W' ⟨b, j, none⟩ u k (by
    rintro rfl
    exact hn rfl)).trans (h.block k hk hn)⟩
theorem Only.drew {b : Nat} {W W' : World} (h : Only b W W') : Only b W W'.drew := ⟨h.os, h.tape, h.output, h.size, h.block⟩
theorem Only.trans {b : Nat} {W W' W'' : World} (h : Only b W W') (k : Only b W' W'') : Only b W W'' :=
  ⟨k.os.trans h.os, k.tape.trans h.tape, k.output.trans h.output, Nat.le_trans h.size k.size, fun i hi hn => (k.block i (Nat.lt_of_lt_of_le hi h.size) hn).trans (h.block i hi hn)⟩
theorem Only.cellOf {b : Nat} {W W' : World} (h : Only b W W') {p : Addr} {v : Value} (hc : W.cell? p = some v) (hn : p.block ≠ b) : W'.cell? p = some v := by
  have hlt := World.block_lt_of_cell? W p hc
  rw [← hc]
  exact World.cell?_of_block (h.block p.block hlt (fun e => hn (by injection e)))
theorem Only.bx {b b' : Nat} {W W' : World} {cs : Array Value} (h : Only b W W') (hb : Bx W b' cs) (hn : b' ≠ b) : Bx W' b' cs := by
  have e := h.block b' hb.lt (fun e => hn (by injection e))
  exact ⟨Nat.lt_of_lt_of_le hb.lt h.size, fun j => (World.cell?_of_block (a := ⟨b', j, none⟩) e).trans (hb.cell j), fun j => by
    have := hb.free j
    unfold World.frozen? at this ⊢
    rw [e]
    exact this⟩
theorem Only.rd {b : Nat} {W W' : World} {size n : Nat} {A : Option Addr} {xs : List Value} (h : Only b W W') (hr : Rd W size A n xs) (hn : ∀ q, A = some q → q.block ≠ b) : Rd W' size A n xs :=
  ⟨hr.1, fun j u hu => by
    obtain ⟨ad, ha, hc⟩ := hr.2 j u hu
    exact ⟨ad, ha, h.cellOf hc (by rw [addr_block]; exact hn ad ha)⟩⟩
theorem Only.new {b : Nat} {W0 W W' : World} (h : Only b W W') (hx : Ext W0 W) (hb : W0.heap.size ≤ b) : Ext W0 W' :=
  ⟨h.os.trans hx.os, h.tape.trans hx.tape, h.output.trans hx.output, Nat.le_trans hx.size h.size, fun k hk => (h.block k (Nat.lt_of_lt_of_le hk hx.size) (fun e => by injection e with e; omega)).trans (hx.block k hk)⟩

theorem Ext.drew {a b : World} (h : Ext a b) : Ext a b.drew := ⟨h.os, h.tape, h.output, h.size, h.block⟩
theorem Ext.undrew {a b : World} (h : Ext a.drew b) : Ext a b := ⟨h.os, h.tape, h.output, h.size, h.block⟩
theorem Bx.drew {W : World} {b : Nat} {cs : Array Value} (h : Bx W b cs) : Bx W.drew b cs := ⟨h.lt, h.cell, h.free⟩
theorem Ext.set {a b : World} (h : Ext a b) {g j : Nat} (u : Value) (hg : a.heap.size ≤ g) : Ext a (b.setCell ⟨g, j, none⟩ u) := h.setCell hg u

end Go.Proofs.Ytfoifcbaadnigaa

/-
  Arguments opened: what a slice of integers, and a struct of integers, shows when the call begins.
-/
set_option linter.unusedVariables false
set_option linter.unusedSimpArgs false
namespace Go.Proofs.Ytfoifcbaadnigaa
open Go.ChangeShapes Go.WideShapes Go.ChangeAt Go.RowKit Go.Joins Go.Deep

/-- Integers of a kind as cells. -/
def Ks (k : IntKind) (zs : List Int) : List Value := zs.map (Value.int k)

section
variable {H : Type} {enc : TypeId × Value → H} {P : Program} {w : World} {base : Nat} {spare : Nat → Bool} {held : Bool}

theorem places_lt {t : TypeId} {v : Value} {d : DataW H} {p : List MemPlace} (h : DataW.Trod enc P w base spare held t v d p) : ∀ x ∈ p, x.block < w.heap.size := by
  obtain ⟨m, hm⟩ := h
  exact DataW.trod_lt m _ _ _ hm

theorem open_row {r : Reach} {b0 : Nat} {t e : TypeId} {k : IntKind} {v : Value} {d : DataW H} {p : List MemPlace} (ht : P.underlying t = some (.slice e)) (he : P.underlying e = some (.int k)) (hc : P.cellsOf e = 1)
    (hv : Value.okWide P w r b0 t v) (h : DataW.Trod enc P w base spare held t v d p) :
    ∃ (A : Option Addr) (n c : Nat) (zs : List Int), v = .slice A n c ∧ n ≤ c ∧ c ≤ maxLen ∧ Rd w 1 A n (Ks k zs) ∧ ∀ z ∈ zs, (Lit.int k z).wf = true := by
  obtain ⟨A, n, c, rfl⟩ := okWide_slice ht hv
  obtain ⟨fuel, hf⟩ := h
  rcases open_ints ht he hc hf with ⟨hcs, _⟩ | ⟨x, l, c', zs, hcs, _, hl, hm, hz, _, hcell, hwz⟩
  · simp [Value.cells] at hcs
    obtain ⟨rfl, rfl, rfl⟩ := hcs
    exact ⟨none, 0, 0, [], rfl, Nat.le_refl _, Nat.zero_le _, Rd.nil w 1 none, by simp⟩
  · simp [Value.cells] at hcs
    obtain ⟨rfl, rfl, rfl⟩ := hcs
    have hlen : n ≤ zs.length := by rw [hz]; split <;> omega
    refine ⟨some x, n, c, zs.take n, rfl, hl, hm, ⟨by simp [Ks]; omega, fun j u hu => ⟨x, rfl, ?_⟩⟩, fun z hz' => hwz z (List.mem_of_mem_take hz')⟩
    unfold Ks at hu
    rw [List.getElem?_map, List.getElem?_take] at hu
    split at hu
    · rename_i hj
      have hj' : j < zs.length := by omega
      rw [hcell j hj', ← hu, List.getD_eq_getElem?_getD, List.getElem?_eq_getElem hj']
      rfl
    · cases hu

theorem open_four {r : Reach} {b0 : Nat} {t : TypeId} {f0 f1 f2 f3 : Field} {k0 k1 k2 k3 : IntKind} {v : Value} {d : DataW H} {p : List MemPlace} (hs : P.underlying t = some (.struct #[f0, f1, f2, f3])) (hone : oneCellFields P #[f0, f1, f2, f3] = true) (hC : P.cellsOf t = 4)
    (u0 : P.underlying f0.type = some (.int k0)) (u1 : P.underlying f1.type = some (.int k1)) (u2 : P.underlying f2.type = some (.int k2)) (u3 : P.underlying f3.type = some (.int k3))
    (hv : Value.okWide P w r b0 t v) (h : DataW.Trod enc P w base spare held t v d p) :
    ∃ a b c e : Int, v = .agg #[.int k0 a, .int k1 b, .int k2 c, .int k3 e] ∧ (Lit.int k0 a).wf = true ∧ (Lit.int k1 b).wf = true ∧ (Lit.int k2 c).wf = true ∧ (Lit.int k3 e).wf = true := by
  obtain ⟨c0, c1, c2, c3, y0, y1, y2, y3, m, rfl, rfl, rfl, h0, h1, h2, h3⟩ := open_agg4 hs hone hC hv h
  obtain ⟨a, e0, _, w0⟩ := DataW.trod_int u0 h0
  obtain ⟨b, e1, _, w1⟩ := DataW.trod_int u1 h1
  obtain ⟨c, e2, _, w2⟩ := DataW.trod_int u2 h2
  obtain ⟨e, e3, _, w3⟩ := DataW.trod_int u3 h3
  simp at e0 e1 e2 e3
  subst e0 e1 e2 e3
  exact ⟨a, b, c, e, rfl, w0, w1, w2, w3⟩
end
end Go.Proofs.Ytfoifcbaadnigaa

/-
  Rows of cells, one behind another; what grows leaves alone.
-/
set_option linter.unusedVariables false
set_option linter.unusedSimpArgs false
namespace Go.Proofs.Ytfoifcbaadnigaa
open Go.RowKit

/-- Rows of cells, one behind another. -/
def flat {α : Type} (f : α → List Value) (xs : List α) : List Value := xs.flatMap f
theorem flat_length {α : Type} {f : α → List Value} {s : Nat} (hf : ∀ x, (f x).length = s) (xs : List α) : (flat f xs).length = xs.length * s := by
  induction xs with
  | nil => simp [flat]
  | cons x xs ih =>
    have : flat f (x :: xs) = f x ++ flat f xs := by simp [flat]
    rw [this, List.length_append, hf, ih, List.length_cons, Nat.add_mul]
    omega
theorem flat_get {α : Type} {f : α → List Value} {s : Nat} (hf : ∀ x, (f x).length = s) : ∀ (xs : List α) (i j : Nat) (x : α), xs[i]? = some x → j < s → (flat f xs)[i * s + j]? = (f x)[j]? := by
  intro xs
  induction xs with
  | nil => intro i j x h; simp at h
  | cons y xs ih =>
    intro i j x h hj
    have e : flat f (y :: xs) = f y ++ flat f xs := by simp [flat]
    rw [e]
    cases i with
    | zero =>
      simp at h
      subst h
      rw [Nat.zero_mul, Nat.zero_add, List.getElem?_append_left (by rw [hf]; exact hj)]
    | succ i =>
      rw [List.getElem?_append_right (by rw [hf, Nat.succ_mul]; omega), hf, show (i + 1) * s + j - s = i * s + j by rw [Nat.succ_mul]; omega]
      exact ih i j x (by simpa using h) hj
theorem flat_append {α : Type} (f : α → List Value) (xs ys : List α) : flat f xs ++ flat f ys = flat f (xs ++ ys) := by simp [flat]
theorem flat_take {α : Type} {f : α → List Value} {s : Nat} (hf : ∀ x, (f x).length = s) (xs : List α) : ∀ k, (flat f xs).take (k * s) = flat f (xs.take k) := by
  induction xs with
  | nil => intro k; simp [flat]
  | cons x xs ih =>
    intro k
    have e : flat f (x :: xs) = f x ++ flat f xs := by simp [flat]
    cases k with
    | zero => simp [flat]
    | succ k =>
      rw [e, List.take_append, hf, List.take_of_length_le (by rw [hf, Nat.succ_mul]; omega), show (k + 1) * s - s = k * s by rw [Nat.succ_mul]; omega, ih k]
      simp [flat]

theorem flat_one {α : Type} {f : α → List Value} (hf : ∀ x, ∀ u ∈ f x, u.oneCell' = true) (xs : List α) : ∀ u ∈ flat f xs, u.oneCell' = true := by
  intro u hu
  obtain ⟨x, _, hx⟩ := List.mem_flatMap.1 hu
  exact hf x u hx
theorem flat_snoc {α : Type} (f : α → List Value) (xs : List α) (x : α) : flat f xs ++ f x = flat f (xs ++ [x]) := by simp [flat]
theorem addr_zero (g j : Nat) : (⟨g, 0, none⟩ : Addr).add j = ⟨g, j, none⟩ := by
  unfold Addr.add
  split <;> simp_all
theorem Bx.grown {W W' : World} {b : Nat} {cs : Array Value} {r : Option Nat} (h : Bx W b cs) (hg : W.grownBy W' r) (hr : r ≠ some b) : Bx W' b cs := by
  have e := hg.block b h.lt (fun e => hr (by rw [e]))
  exact ⟨Nat.lt_of_lt_of_le h.lt hg.size, fun j => (World.cell?_of_block (a := ⟨b, j, none⟩) e).trans (h.cell j), fun j => by
    have := h.free j
    unfold World.frozen? at this ⊢
    rw [e]
    exact this⟩
theorem Bx.set {W : World} {b : Nat} {cs : Array Value} (h : Bx W b cs) {j : Nat} (hj : j < cs.size) (u : Value) : Bx (W.setCell ⟨b, j, none⟩ u) b (cs.setIfInBounds j u) := by
  refine ⟨by simpa [World.setCell] using h.lt, fun i => ?_, fun i => by rw [World.frozen?_setCell]; exact h.free i⟩
  have h0 := (h.cell j).trans (Array.getElem?_eq_getElem hj)
  by_cases e : j = i
  · subst e
    rw [World.cell?_setCell_same _ _ _ h0]
    simp [hj]
  · rw [World.cell?_setCell_other _ _ _ _ (fun x => e (by injection x)), h.cell i]
    simp [Array.getElem?_setIfInBounds, e]
theorem own_only {b : Nat} {W W' : World} {base : Nat} {e : TypeId} {size n : Nat} {v : Value} {xs : List Value} (h : W.ownsRow base e size v n xs) (ho : Only b W W') (hne : v.ownBlock ≠ some b) : W'.ownsRow base e size v n xs := by
  refine ⟨h.1, ?_⟩
  rcases h.2 with h' | ⟨g, cap, cur, rfl, hb, hg, hr⟩
  · exact .inl h'
  · refine .inr ⟨g, cap, cur, rfl, hb, ?_, hr⟩
    rw [← hg]
    exact ho.block g (Array.getElem?_eq_some_iff.1 hg).1 (fun e => hne (by rw [← e]; rfl))

theorem Rd.grown {W W' : World} {size n : Nat} {A : Option Addr} {xs : List Value} {r : Option Nat} (h : Rd W size A n xs) (hg : W.grownBy W' r) (hne : ∀ q, A = some q → r ≠ some q.block) : Rd W' size A n xs :=
  ⟨h.1, fun j u hu => by
    obtain ⟨ad, ha, hc⟩ := h.2 j u hu
    refine ⟨ad, ha, ?_⟩
    have hlt := World.block_lt_of_cell? W _ hc
    rw [← hc]
    refine World.cell?_of_block (hg.block _ hlt (fun e => hne ad ha ?_))
    rw [addr_block] at e
    exact e.symm⟩
theorem own_ext {W W' : World} {base : Nat} {e : TypeId} {size n : Nat} {v : Value} {xs : List Value} (h : W.ownsRow base e size v n xs) (hx : Ext W W') : W'.ownsRow base e size v n xs := by
  refine ⟨h.1, ?_⟩
  rcases h.2 with h' | ⟨g, cap, cur, rfl, hb, hg, hr⟩
  · exact .inl h'
  · refine .inr ⟨g, cap, cur, rfl, hb, ?_, hr⟩
    rw [← hg]
    exact hx.block g (Array.getElem?_eq_some_iff.1 hg).1

theorem Rd.of_flat {α : Type} {f : α → List Value} {s : Nat} (hf : ∀ x, (f x).length = s) (hs : 0 < s) {w : World} {ad : Addr} {xs : List α}
    (h : ∀ i x, xs[i]? = some x → ∀ j, j < s → w.cell? (ad.add (i * s + j)) = (f x)[j]?) : Rd w s (some ad) xs.length (flat f xs) := by
  refine ⟨flat_length hf xs, fun j u hu => ⟨ad, rfl, ?_⟩⟩
  have hj : j < xs.length * s := by
    have := (List.getElem?_eq_some_iff.1 hu).1
    rwa [flat_length hf] at this
  have hi : j / s < xs.length := by
    rw [Nat.div_lt_iff_lt_mul hs]
    exact hj
  have hv : xs[j / s]? = some xs[j / s] := List.getElem?_eq_getElem hi
  have e : j = j / s * s + j % s := by
    have := Nat.div_add_mod j s
    rw [Nat.mul_comm] at this
    exact this.symm
  have hm := Nat.mod_lt j hs
  have h1 := h _ _ hv (j % s) hm
  rw [← flat_get hf xs _ _ _ hv hm, ← e] at h1
  rw [h1]
  exact hu


end Go.Proofs.Ytfoifcbaadnigaa

/-
  Contracts of package ref and of the document's own answers.
-/
set_option linter.unusedVariables false
set_option linter.unusedSimpArgs false
namespace Go.Proofs.Ytfoifcbaadnigaa
open Go.RowKit

/-- A reference of a place and a generation. -/
abbrev Node (r : Int) : Prop := 1 ≤ r % 65536 ∧ r % 65536 ≤ 512 ∧ r / 65536 ≤ 1048576
abbrev May (p g : Int) : Prop := 0 ≤ p ∧ p < 512 ∧ 0 ≤ g ∧ g ≤ 1048576

theorem place_is (r : Int) (w : World) (h0 : 0 ≤ r) (h1 : r ≤ 18446744073709551615) :
    Calls Try.prog 82 #[.int .u64 r] w fun e w' => e = .returned (.int .i64 (r % 65536 - 1)) ∧ w = w' := by
  go_enter Try.func82, Try.ntmps82
  go_wp2
  go_ret
  exact ⟨rfl, rfl⟩

theorem gen_is (r : Int) (w : World) (h0 : 0 ≤ r) (h1 : r ≤ 18446744073709551615) :
    Calls Try.prog 83 #[.int .u64 r] w fun e w' => e = .returned (.int .i64 (r / 65536)) ∧ w = w' := by
  go_enter Try.func83, Try.ntmps83
  go_wp2
  go_ret
  exact ⟨rfl, rfl⟩

theorem node_is (r : Int) (w : World) (h0 : 0 ≤ r) (h1 : r ≤ 18446744073709551615) :
    Calls Try.prog 97 #[.int .u64 r] w fun e w' => e = .returned (.bool (decide (Node r))) ∧ w = w' := by
  by_cases e1 : 1 ≤ r % 65536
  · by_cases e2 : r % 65536 ≤ 512
    · by_cases e3 : r / 65536 ≤ 1048576
      · have e : decide (Node r) = true := by simp only [decide_eq_true_eq]; exact ⟨e1, e2, e3⟩
        rw [e]
        go_enter Try.func97, Try.ntmps97
        go_wp2
        go_ret
        exact ⟨rfl, rfl⟩
      · have e : decide (Node r) = false := by simp only [decide_eq_false_iff_not]; exact fun h => e3 h.2.2
        rw [e]
        go_enter Try.func97, Try.ntmps97
        go_wp2
        go_ret
        exact ⟨rfl, rfl⟩
    · have e : decide (Node r) = false := by simp only [decide_eq_false_iff_not]; exact fun h => e2 h.2.1
      rw [e]
      go_enter Try.func97, Try.ntmps97
      go_wp2
      go_ret
      exact ⟨rfl, rfl⟩
  · have e : decide (Node r) = false := by simp only [decide_eq_false_iff_not]; exact fun h => e1 h.1
    rw [e]
    go_enter Try.func97, Try.ntmps97
    go_wp2
    go_ret
    exact ⟨rfl, rfl⟩

theorem tell_no (r : Int) (v : Value) (o : Int) (w : World) (h0 : 0 ≤ r) (h1 : r ≤ 18446744073709551615) (h : ¬ Node r) :
    Calls Try.prog 81 #[.int .u64 r, v, .int .i64 o] w fun e w' => e = .returned (.int .i64 o) ∧ w = w' := by
  have H := Lib.hid (show decide (Node r) = false from decide_eq_false h)
  clear h
  go_enter Try.func81, Try.ntmps81
  go_wp2_with fail
  refine (node_is r _ h0 h1).mono ?_; rintro e w1 ⟨rfl, rfl⟩
  rw [H.out]
  go_wp2
  go_ret
  exact ⟨rfl, rfl⟩

theorem tell_place (r : Int) (o : Int) (w : World) (h0 : 0 ≤ r) (h1 : r ≤ 18446744073709551615) (h : Node r) :
    Calls Try.prog 81 #[.int .u64 r, .func (.func 82) #[] #[], .int .i64 o] w fun e w' => e = .returned (.int .i64 (r % 65536 - 1)) ∧ w = w' := by
  have H := Lib.hid (show decide (Node r) = true from decide_eq_true h)
  clear h
  go_enter Try.func81, Try.ntmps81
  go_wp2_with fail
  refine (node_is r _ h0 h1).mono ?_; rintro e w1 ⟨rfl, rfl⟩
  rw [H.out]
  go_wp2_with fail
  refine (place_is r _ h0 h1).mono ?_; rintro e w1 ⟨rfl, rfl⟩
  go_wp2_with fail
  go_ret
  exact ⟨rfl, rfl⟩

theorem tell_gen (r : Int) (o : Int) (w : World) (h0 : 0 ≤ r) (h1 : r ≤ 18446744073709551615) (h : Node r) :
    Calls Try.prog 81 #[.int .u64 r, .func (.func 83) #[] #[], .int .i64 o] w fun e w' => e = .returned (.int .i64 (r / 65536)) ∧ w = w' := by
  have H := Lib.hid (show decide (Node r) = true from decide_eq_true h)
  clear h
  go_enter Try.func81, Try.ntmps81
  go_wp2_with fail
  refine (node_is r _ h0 h1).mono ?_; rintro e w1 ⟨rfl, rfl⟩
  rw [H.out]
  go_wp2_with fail
  refine (gen_is r _ h0 h1).mono ?_; rintro e w1 ⟨rfl, rfl⟩
  go_wp2_with fail
  go_ret
  exact ⟨rfl, rfl⟩

theorem Place_yes (r : Int) (w : World) (h0 : 0 ≤ r) (h1 : r ≤ 18446744073709551615) (h : Node r) :
    Calls Try.prog 70 #[.int .u64 r] w fun e w' => e = .returned (.int .i64 (r % 65536 - 1)) ∧ w = w' := by
  have H := Lib.hid h
  clear h
  go_enter Try.func70, Try.ntmps70
  go_wp2_with fail
  refine (tell_place r (-1) _ h0 h1 H.out).mono ?_; rintro e w1 ⟨rfl, rfl⟩
  go_wp2_with fail
  go_ret
  exact ⟨rfl, rfl⟩

theorem Place_no (r : Int) (w : World) (h0 : 0 ≤ r) (h1 : r ≤ 18446744073709551615) (h : ¬ Node r) :
    Calls Try.prog 70 #[.int .u64 r] w fun e w' => e = .returned (.int .i64 (-1)) ∧ w = w' := by
  have H := Lib.hid h
  clear h
  go_enter Try.func70, Try.ntmps70
  go_wp2_with fail
  refine (tell_no r _ (-1) _ h0 h1 H.out).mono ?_; rintro e w1 ⟨rfl, rfl⟩
  go_wp2_with fail
  go_ret
  exact ⟨rfl, rfl⟩

theorem Gen_yes (r : Int) (w : World) (h0 : 0 ≤ r) (h1 : r ≤ 18446744073709551615) (h : Node r) :
    Calls Try.prog 72 #[.int .u64 r] w fun e w' => e = .returned (.int .i64 (r / 65536)) ∧ w = w' := by
  have H := Lib.hid h
  clear h
  go_enter Try.func72, Try.ntmps72
  go_wp2_with fail
  refine (tell_gen r 0 _ h0 h1 H.out).mono ?_; rintro e w1 ⟨rfl, rfl⟩
  go_wp2_with fail
  go_ret
  exact ⟨rfl, rfl⟩

theorem Gen_no (r : Int) (w : World) (h0 : 0 ≤ r) (h1 : r ≤ 18446744073709551615) (h : ¬ Node r) :
    Calls Try.prog 72 #[.int .u64 r] w fun e w' => e = .returned (.int .i64 0) ∧ w = w' := by
  have H := Lib.hid h
  clear h
  go_enter Try.func72, Try.ntmps72
  go_wp2_with fail
  refine (tell_no r _ 0 _ h0 h1 H.out).mono ?_; rintro e w1 ⟨rfl, rfl⟩
  go_wp2_with fail
  go_ret
  exact ⟨rfl, rfl⟩

theorem Right_zero (w : World) :
    Calls Try.prog 95 #[.int .u64 0] w fun e w' => e = .returned (.bool true) ∧ w = w' := by
  go_enter Try.func95, Try.ntmps95
  go_wp2_with fail
  go_ret
  exact ⟨rfl, rfl⟩

theorem Right_not (r : Int) (w : World) (h0 : 0 ≤ r) (h1 : r ≤ 18446744073709551615) (hz : ¬ r = 0) :
    Calls Try.prog 95 #[.int .u64 r] w fun e w' => e = .returned (.bool (decide (Node r))) ∧ w = w' := by
  have e0 : (r == 0) = false := by simp [hz]
  obtain ⟨b, hb⟩ : ∃ b, decide (Node r) = b := ⟨_, rfl⟩
  have HB := Lib.hid hb
  rw [hb]
  clear hb
  go_enter Try.func95, Try.ntmps95
  go_wp2_with fail
  refine (node_is r _ h0 h1).mono ?_; rintro e w1 ⟨rfl, rfl⟩
  rw [HB.out]
  go_wp2_with fail
  go_ret
  exact ⟨rfl, rfl⟩

theorem Of_yes (p g : Int) (w : World) (h : May p g) :
    Calls Try.prog 67 #[.int .i64 p, .int .i64 g] w fun e w' => e = .returned (.tuple #[.int .u64 (65536 * g + p + 1), .int .i64 0]) ∧ w = w' := by
  obtain ⟨h1, h2, h3, h4⟩ := h
  have e1 : decide (p < 0) = false := by simp; omega
  have e2 : decide (p ≥ 512) = false := by simp; omega
  have e3 : decide (g < 0) = false := by simp; omega
  have e4 : decide (g > 1048576) = false := by simp; omega
  have H := Lib.hid (show g * 65536 + p + 1 = 65536 * g + p + 1 by omega)
  rw [← H.out]
  go_enter Try.func67, Try.ntmps67
  go_wp2
  go_ret2
  exact ⟨rfl, rfl⟩

theorem Of_no (p g : Int) (w : World) (h : ¬ May p g) :
    Calls Try.prog 67 #[.int .i64 p, .int .i64 g] w fun e w' => e = .returned (.tuple #[.int .u64 0, .int .i64 1]) ∧ w = w' := by
  by_cases h1 : p < 0
  · clear h
    go_enter Try.func67, Try.ntmps67
    go_wp2
    go_ret2
    exact ⟨rfl, rfl⟩
  · by_cases h2 : 512 ≤ p
    · clear h
      go_enter Try.func67, Try.ntmps67
      go_wp2
      go_ret2
      exact ⟨rfl, rfl⟩
    · by_cases h3 : g < 0
      · clear h
        go_enter Try.func67, Try.ntmps67
        go_wp2
        go_ret2
        exact ⟨rfl, rfl⟩
      · have h4 : 1048576 < g := by
          rcases Int.lt_or_le 1048576 g with k | k
          · exact k
          · exact absurd ⟨by omega, by omega, by omega, k⟩ h
        clear h
        go_enter Try.func67, Try.ntmps67
        go_wp2
        go_ret2
        exact ⟨rfl, rfl⟩

theorem Is_is (p g : Int) (w : World) :
    Calls Try.prog 68 #[.int .i64 p, .int .i64 g] w fun e w' => e = .returned (.bool (decide (May p g))) ∧ w = w' := by
  by_cases h : May p g
  · rw [decide_eq_true h]
    obtain ⟨h1, h2, h3, h4⟩ := h
    go_enter Try.func68, Try.ntmps68
    go_wp2
    go_ret
    exact ⟨rfl, rfl⟩
  · rw [decide_eq_false h]
    by_cases h1 : 0 ≤ p
    · by_cases h2 : p < 512
      · by_cases h3 : 0 ≤ g
        · have h4 : ¬ g ≤ 1048576 := fun k => h ⟨h1, h2, h3, k⟩
          clear h
          go_enter Try.func68, Try.ntmps68
          go_wp2
          go_ret
          exact ⟨rfl, rfl⟩
        · clear h
          go_enter Try.func68, Try.ntmps68
          go_wp2
          go_ret
          exact ⟨rfl, rfl⟩
      · clear h
        go_enter Try.func68, Try.ntmps68
        go_wp2
        go_ret
        exact ⟨rfl, rfl⟩
    · clear h
      go_enter Try.func68, Try.ntmps68
      go_wp2
      go_ret
      exact ⟨rfl, rfl⟩

theorem want_gen (r : Int) (w : World) (h0 : 0 ≤ r) (h1 : r ≤ 18446744073709551615) :
    Calls Try.prog 49 #[.int .u64 r] w fun e w' => e = .returned (.int .i64 (if Node r then r / 65536 else -1)) ∧ w = w' := by
  by_cases h2 : r / 65536 ≤ 1048576
  · have HD := Lib.hid (show decide (May (r % 65536 - 1) (r / 65536)) = decide (Node r) by
      apply decide_eq_decide.mpr
      constructor
      · rintro ⟨a, b, c, d⟩; exact ⟨by omega, by omega, by omega⟩
      · rintro ⟨a, b, c⟩; exact ⟨by omega, by omega, by omega, by omega⟩)
    by_cases h : Node r
    · rw [if_pos h]
      rw [decide_eq_true h] at HD
      clear h
      go_enter Try.func49, Try.ntmps49
      go_wp2_with fail
      refine (Is_is _ _ _).mono ?_; rintro e w1 ⟨rfl, rfl⟩
      rw [HD.out]
      go_wp2_with fail
      go_ret
      exact ⟨rfl, rfl⟩
    · rw [if_neg h]
      rw [decide_eq_false h] at HD
      clear h
      go_enter Try.func49, Try.ntmps49
      go_wp2_with fail
      refine (Is_is _ _ _).mono ?_; rintro e w1 ⟨rfl, rfl⟩
      rw [HD.out]
      go_wp2_with fail
      go_ret
      exact ⟨rfl, rfl⟩
  · rw [if_neg (fun h => h2 h.2.2)]
    go_enter Try.func49, Try.ntmps49
    go_wp2_with fail
    go_ret
    exact ⟨rfl, rfl⟩

end Go.Proofs.Ytfoifcbaadnigaa

/-
  Nodes of an arena as cells; whole nodes read and stored, whatever they are.
-/
set_option linter.unusedVariables false
set_option linter.unusedSimpArgs false
namespace Go.Proofs.Ytfoifcbaadnigaa
open Go.RowKit

/-- A node. -/
structure Nd where
  k : Int
  g : Int
  n : Int
  v : Int
  s : Int
  r0 : Int
  r1 : Int
  r2 : Int
  r3 : Int
  r4 : Int
  r5 : Int
  r6 : Int
  r7 : Int
  r8 : Int
  pre : Int
  suf : Int
deriving DecidableEq
def Nd.kids (x : Nd) : List Int := [x.r0, x.r1, x.r2, x.r3, x.r4, x.r5, x.r6, x.r7, x.r8]
def Nd.cells (x : Nd) : List Value := [.int .i64 x.k, .int .i64 x.g, .int .i64 x.n, .int .i64 x.v, .int .i64 x.s, .int .u64 x.r0, .int .u64 x.r1, .int .u64 x.r2, .int .u64 x.r3, .int .u64 x.r4, .int .u64 x.r5, .int .u64 x.r6, .int .u64 x.r7, .int .u64 x.r8, .int .i64 x.pre, .int .i64 x.suf]
def Nd.arr (x : Nd) : Array Value := #[.int .i64 x.k, .int .i64 x.g, .int .i64 x.n, .int .i64 x.v, .int .i64 x.s, .int .u64 x.r0, .int .u64 x.r1, .int .u64 x.r2, .int .u64 x.r3, .int .u64 x.r4, .int .u64 x.r5, .int .u64 x.r6, .int .u64 x.r7, .int .u64 x.r8, .int .i64 x.pre, .int .i64 x.suf]
/-- A free node of a generation. -/
def bare (g : Int) : Nd := ⟨0, g, 0, 0, 0, 0, 0, 0, 0, 0, 0, 0, 0, 0, 0, 0⟩
theorem Nd.cells_length (x : Nd) : x.cells.length = 16 := rfl
theorem Nd.arr_size (x : Nd) : x.arr.size = 16 := rfl
theorem Nd.arr_list (x : Nd) : x.arr.toList = x.cells := rfl
theorem Nd.cells_one (x : Nd) : ∀ u ∈ x.cells, u.oneCell' = true := by
  intro u hu
  simp [Nd.cells] at hu
  rcases hu with rfl | rfl | rfl | rfl | rfl | rfl | rfl | rfl | rfl | rfl | rfl | rfl | rfl | rfl | rfl | rfl <;> rfl
theorem Nd.arr_one (x : Nd) : x.arr.all (·.oneCell') = true := by simp [Nd.arr, Value.oneCell']
theorem Nd.arr_get (x : Nd) (j : Nat) : x.arr[j]? = x.cells[j]? := by simp [Nd.arr, Nd.cells]

/-! ### A whole node out of memory -/
theorem run_loadVar_any {P : Program} (w : World) (a : Addr) (ty : TypeId) (cs : Array Value) (d : TypeDesc) (hc : ∀ j v, cs[j]? = some v → w.cell? (a.add j) = some v)
    (hu : P.underlying ty = some d) (hd : d.isRow = true) (hi : (P.info? ty).map (·.size) = some cs.size) :
    (loadVar ty a).run P w = .ok (.agg cs) w := by
  have hl : (loadCells a cs.toList.length).run P w = .ok cs.toList.toArray w :=
    run_loadCells_list (P := P) w a cs.toList (fun j v hv => hc j v (by simpa using hv))
  cases hq : P.info? ty with
  | none => simp [hq] at hi
  | some i =>
    have hs : i.size = cs.size := by simpa [hq] using hi
    have hagg : (isAgg ty).run P w = .ok true w := by
      unfold isAgg
      rw [Sem.run_bind, run_underlying hu w]
      cases d <;> simp_all
    simp only [Array.length_toList, Array.toArray_toList] at hl
    simp [loadVar, Sem.run_bind, hagg, sizeOf, typeInfo, hq, hs, hl]

/-- In w the cells of node x lie from a on. -/
def NdAt (w : World) (a : Addr) (x : Nd) : Prop := ∀ j v, x.cells[j]? = some v → w.cell? (a.add j) = some v
theorem NdAt.to {w w' : World} {a : Addr} {x : Nd} (h : NdAt w a x) (e : Ext w w') : NdAt w' a x := fun j v hv => e.cellOf (h j v hv)
theorem NdAt.load {w : World} {a : Addr} {x : Nd} (h : NdAt w a x) : (Instr.loadAt 68 (.pointer (some a))).run Try.prog w = .ok (.agg x.arr) w := by
  simp only [Instr.loadAt, Instr.sureAddr, Sem.run_bind, Sem.run_pure, Result.andThen_ok]
  exact run_loadVar_any w a _ x.arr _ (fun j v hv => h j v (by rw [← Nd.arr_get]; exact hv)) Try.underlying68 rfl (by kernel_rfl)
theorem NdAt.cells {w : World} {a : Addr} {x : Nd} (h : NdAt w a x) : (loadCellsFrom a 0 16 #[]).run Try.prog w = .ok x.arr w := by
  have := run_loadCells_list (P := Try.prog) w a x.cells (fun j v hv => h j v hv)
  simpa [loadCells, Nd.cells, Nd.arr] using this
theorem NdAt.of {w : World} {A : Option Addr} {n : Nat} {ns : List Nd} (h : Rd w 16 A n (flat Nd.cells ns)) {i : Nat} {x : Nd} (hx : ns[i]? = some x) : ∃ ad, A = some ad ∧ NdAt w (ad.add (i * 16)) x := by
  obtain ⟨ad, ha, _⟩ := h.2 (i * 16 + 0) (.int .i64 x.k) ((flat_get Nd.cells_length ns i 0 x hx (by omega)).trans rfl)
  refine ⟨ad, ha, fun j v hv => ?_⟩
  have hj : j < 16 := by
    have := (List.getElem?_eq_some_iff.1 hv).1
    rwa [Nd.cells_length] at this
  obtain ⟨ad', ha', hc⟩ := h.2 (i * 16 + j) v ((flat_get Nd.cells_length ns i j x hx hj).trans hv)
  rw [ha] at ha'
  injection ha' with ha'
  subst ha'
  rw [addr_add]
  exact hc
theorem Bx.node {w : World} {b : Nat} {x : Nd} (h : Bx w b x.arr) : NdAt w ⟨b, 0, none⟩ x := fun j v hv => by
  have hadd : (⟨b, 0, none⟩ : Addr).add j = ⟨b, j, none⟩ := by unfold Addr.add; split <;> simp_all
  rw [hadd, h.cell j, Nd.arr_get]
  exact hv

/-- THE OPERATION: a whole node is read. -/
theorem wpList_load_nd {ops : Array Oper} {rest : List Oper} {o : Oper} {a : Act} {w : World} {Q : Exit → Act → World → Prop} (hgd : Region.wanted o (yielded ops a.tmps) = true) (x : Operand) (ho : o.op = .load 68 x)
    (A : Addr) (hx : a.eval x = .pointer (some A)) (n : Nd) (hn : NdAt w A n)
    (h : wpList Try.prog ops Q rest (a.put o.dst (.agg n.arr)) w) : wpList Try.prog ops Q (o :: rest) a w :=
  Go.BigFrame.wpList_want hgd fun K hK => by
    unfold Oper.wp execOp
    simp only [ho, hx, Sem.run_bind, hn.load, Sem.run_pure, Result.andThen_ok]
    exact hK _ _ h
/-- THE OPERATION: a whole node goes into the variable that was made last. -/
theorem wpList_store_nd {ops : Array Oper} {rest : List Oper} {o : Oper} {a : Act} {w W : World} {Q : Exit → Act → World → Prop} (hgd : Region.wanted o (yielded ops a.tmps) = true) (x y : Operand) (ho : o.op = .store 68 x y)
    (hx : a.eval x = .pointer (some ⟨W.heap.size, 0, none⟩)) (n : Nd) (hy : a.eval y = .agg n.arr) (c : Array Value) (hw : w = W.alloc (.cells c 68)) (hc : c.size = 16)
    (h : wpList Try.prog ops Q rest (a.put o.dst undef) (W.alloc (.cells n.arr 68))) : wpList Try.prog ops Q (o :: rest) a w := by
  subst hw
  exact Go.BigFrame.wpList_want hgd fun K hK => by
    unfold Oper.wp execOp
    simp only [ho, hx, hy, Sem.run_bind, run_storeAt_new (P := Try.prog) W 68 c n.arr (by kernel_rfl) hc n.arr_one, Sem.run_pure, Result.andThen_ok]
    exact hK _ _ h

/-- THE OPERATION: a whole array or struct is read. -/
theorem wpList_load_agg {ops : Array Oper} {rest : List Oper} {o : Oper} {a : Act} {w : World} {Q : Exit → Act → World → Prop} (ty : TypeId) (hgd : Region.wanted o (yielded ops a.tmps) = true) (x : Operand) (ho : o.op = .load ty x)
    (A : Addr) (hx : a.eval x = .pointer (some A)) (cs : Array Value) (hn : (Instr.loadAt ty (.pointer (some A))).run Try.prog w = .ok (.agg cs) w)
    (h : wpList Try.prog ops Q rest (a.put o.dst (.agg cs)) w) : wpList Try.prog ops Q (o :: rest) a w :=
  Go.BigFrame.wpList_want hgd fun K hK => by
    unfold Oper.wp execOp
    simp only [ho, hx, Sem.run_bind, hn, Sem.run_pure, Result.andThen_ok]
    exact hK _ _ h
/-- A whole row of references is read. -/
theorem run_loadKids {w : World} {a : Addr} {zs : List Int} {n c : Nat} (h : Rd w 1 (some a) n (Us zs)) (hn : zs.length = 9) : (Instr.loadAt 66 (.pointer (some a))).run Try.prog w = .ok (.agg (Us zs).toArray) w := by
  simp only [Instr.loadAt, Instr.sureAddr, Sem.run_bind, Sem.run_pure, Result.andThen_ok]
  have hi : (Try.prog.info? 66).map (·.size) = some 9 := by kernel_rfl
  have hs : (Us zs).toArray.size = 9 := by simp [Us, hn]
  exact run_loadVar_any (P := Try.prog) w a _ (Us zs).toArray _ (fun j v hv => h.cells j v (by simpa using hv)) Try.underlying66 rfl (by rw [hs]; exact hi)

/-- THE OPERATION: one of a row of values is read. -/
theorem wpList_index_agg {ops : Array Oper} {rest : List Oper} {o : Oper} {a : Act} {w : World} {Q : Exit → Act → World → Prop} (ty : TypeId) (hgd : Region.wanted o (yielded ops a.tmps) = true) (x y : Operand) (ho : o.op = .index ty x y)
    (u i v : Value) (hx : a.eval x = u) (hy : a.eval y = i) (hn : (Instr.index ty u i).run Try.prog w = .ok v w)
    (h : wpList Try.prog ops Q rest (a.put o.dst v) w) : wpList Try.prog ops Q (o :: rest) a w :=
  Go.BigFrame.wpList_want hgd fun K hK => by
    unfold Oper.wp execOp
    simp only [ho, hx, hy, Sem.run_bind, hn, Sem.run_pure, Result.andThen_ok]
    exact hK _ _ h
theorem run_indexKids {w : World} {zs : List Int} (hn : zs.length = 9) {k : Nat} (hk : k < 9) : (Instr.index 66 (.agg (Us zs).toArray) (.int .i64 k)).run Try.prog w = .ok (.int .u64 (ith zs k)) w := by
  have h1 : ¬ ((k : Int) < 0) := by omega
  have h2 : ¬ ((9 : Int) ≤ (k : Int)) := by omega
  have hc : (Us zs)[k]? = some (.int .u64 (ith zs k)) := by rw [Us_get, ith_of zs (by omega)]; rfl
  simp [Instr.index, run_underlying Try.underlying66, asIntOf, h1, h2, part, isAgg, run_underlying Try.underlying31, hc, go_sem]
  omega

end Go.Proofs.Ytfoifcbaadnigaa

/-
  Contracts: which nodes may be, as the program tells it (rightParts, rightNode).
-/
set_option linter.unusedVariables false
set_option linter.unusedSimpArgs false
namespace Go.Proofs.Ytfoifcbaadnigaa
open Go.RowKit

/-- A reference that may be. -/
abbrev RefMay (r : Int) : Prop := r = 0 ∨ Node r
/-- References are 64 bits. -/
def Nd.Ok (x : Nd) : Prop := ∀ r ∈ x.kids, 0 ≤ r ∧ r ≤ 18446744073709551615
abbrev Small (n : Int) : Prop := 0 ≤ n ∧ n ≤ 9
def Nd.Parts (x : Nd) : Prop := Small x.pre ∧ Small x.suf ∧ ∀ r ∈ x.kids, RefMay r
instance (x : Nd) : Decidable x.Parts := inferInstanceAs (Decidable (_ ∧ _ ∧ _))

theorem up_is (n : Int) (w : World) :
    Calls Try.prog 78 #[.int .i64 n] w fun e w' => e = .returned (.bool (decide (Small n))) ∧ w = w' := by
  by_cases h : Small n
  · rw [decide_eq_true h]
    obtain ⟨h1, h2⟩ := h
    go_enter Try.func78, Try.ntmps78
    go_wp2
    go_ret
    exact ⟨rfl, rfl⟩
  · rw [decide_eq_false h]
    by_cases h1 : 0 ≤ n
    · have h2 : ¬ n ≤ 9 := fun k => h ⟨h1, k⟩
      clear h
      go_enter Try.func78, Try.ntmps78
      go_wp2
      go_ret
      exact ⟨rfl, rfl⟩
    · clear h
      go_enter Try.func78, Try.ntmps78
      go_wp2
      go_ret
      exact ⟨rfl, rfl⟩

theorem refmay_is (r : Int) (w : World) (h0 : 0 ≤ r) (h1 : r ≤ 18446744073709551615) (b : Bool) (hb : b = decide (RefMay r)) :
    Calls Try.prog 95 #[.int .u64 r] w fun e w' => e = .returned (.bool b) ∧ w = w' := by
  by_cases h : r = 0
  · subst h
    obtain rfl : b = true := by simpa using hb
    exact Right_zero w
  · have e : decide (RefMay r) = decide (Node r) := decide_eq_decide.mpr ⟨fun x => x.resolve_left h, .inr⟩
    rw [hb, e]
    exact Right_not r w h0 h1 h

theorem wrong_is (r : Int) (w : World) (h0 : 0 ≤ r) (h1 : r ≤ 18446744073709551615) (b : Bool) (hb : b = decide (RefMay r)) :
    Calls Try.prog 79 #[.int .u64 r] w fun e w' => e = .returned (.bool (!b)) ∧ w = w' := by
  have HB := Lib.hid hb
  clear hb
  go_enter Try.func79, Try.ntmps79
  go_wp2_with fail
  refine (refmay_is r _ h0 h1 b HB.out).mono ?_; rintro e w1 ⟨rfl, rfl⟩
  go_wp2_with fail
  go_ret
  exact ⟨rfl, rfl⟩

/-- What IndexFunc tells: -1 just if all may be. -/
def Told (b : Bool) (w : World) (e : Ending) (w' : World) : Prop := (∃ j : Int, e = .returned (.int .i64 j) ∧ (b = true → j = -1) ∧ (b = false → 0 ≤ j)) ∧ w = w'

set_option maxHeartbeats 800000 in
theorem index_is (ad : Addr) (n c : Nat) (zs : List Int) (w : World) (hn : n ≤ 100) (h : Rd w 1 (some ad) n (Us zs)) (hz : ∀ z ∈ zs, 0 ≤ z ∧ z ≤ 18446744073709551615) (b : Bool) (hb : b = true ↔ ∀ z ∈ zs, RefMay z) :
    Calls Try.prog 57 #[.slice (some ad) n c, .func (.func 79) #[] #[]] w (Told b w) := by
  have HB := Lib.hid hb
  have HZ := Lib.hid hz
  have hl := Lib.hid h.u64len
  clear hb hz
  go_enter Try.func57, Try.ntmps57
  go_wp2_with fail
  go_loopw [5, 8] (fun _ j wr => wr = w ∧ ∃ k : Nat, k ≤ n ∧ j = .int .i64 k ∧ Hid (∀ i z, i < k → zs[i]? = some z → RefMay z)) (fun _ j _ => n - (intOf j).toNat)
  case atStart => exact ⟨rfl, 0, Nat.zero_le _, rfl, fun i z hi => by omega⟩
  case round =>
    obtain ⟨rfl, k, hk, rfl, hall⟩ := hrel
    by_cases hlt : k < n
    · have hc := h.u64 hlt
      have hm : ith zs k ∈ zs := List.mem_of_getElem? (ith_of zs (by rw [hl.out]; exact hlt))
      obtain ⟨z0, z1⟩ := HZ.out _ hm
      have HI := Lib.hid (ith_of zs (i := k) (by rw [hl.out]; exact hlt))
      clear hm
      generalize ith zs k = z at *
      obtain ⟨ok, hok⟩ : ∃ ok : Bool, ok = decide (RefMay z) := ⟨_, rfl⟩
      have HO := Lib.hid hok
      clear hok
      go_wp2_with fail
      refine (wrong_is z _ z0 z1 ok HO.out).mono ?_; rintro e w1 ⟨rfl, rfl⟩
      cases ok
      · obtain rfl : b = false := by
          cases b
          · rfl
          · have := HB.out.1 rfl z (List.mem_of_getElem? HI.out)
            have e := HO.out
            rw [decide_eq_true this] at e
            cases e
        go_wp2_with fail
        go_ret
        exact ⟨⟨_, rfl, by simp, by simp⟩, rfl⟩
      · go_wp2_with fail
        go_roundw
        case rel => exact ⟨trivial, k + 1, by omega, by go_num, fun i y hi hy => by
          by_cases e : i = k
          · subst e
            rw [HI.out] at hy
            injection hy with hy
            subst hy
            exact of_decide_eq_true HO.out.symm
          · exact hall i y (by omega) hy⟩
        case measure => simp [intOf]; omega
    · obtain rfl : b = true := HB.out.2 fun z hz => by
        obtain ⟨i, hi⟩ := List.getElem?_of_mem hz
        have := (List.getElem?_eq_some_iff.1 hi).1
        exact hall i z (by have := hl.out; omega) hi
      go_wp2_with fail
      go_ret
      exact ⟨⟨_, rfl, by simp, by simp⟩, rfl⟩

theorem contains_is (ad : Addr) (n c : Nat) (zs : List Int) (w : World) (hn : n ≤ 100) (h : Rd w 1 (some ad) n (Us zs)) (hz : ∀ z ∈ zs, 0 ≤ z ∧ z ≤ 18446744073709551615) (b : Bool) (hb : b = true ↔ ∀ z ∈ zs, RefMay z) :
    Calls Try.prog 38 #[.slice (some ad) n c, .func (.func 79) #[] #[]] w fun e w' => e = .returned (.bool (!b)) ∧ w = w' := by
  have HB := Lib.hid hb
  have HZ := Lib.hid hz
  clear hb hz
  go_enter Try.func38, Try.ntmps38
  go_wp2_with fail
  refine (index_is ad n c zs _ hn h HZ.out b HB.out).mono ?_; rintro e w1 ⟨⟨j, rfl, h1, h2⟩, rfl⟩
  cases b
  · have := h2 rfl
    clear h1 h2
    go_wp2_with fail
    go_ret
    exact ⟨rfl, rfl⟩
  · obtain rfl := h1 rfl
    clear h1 h2
    go_wp2_with fail
    go_ret
    exact ⟨rfl, rfl⟩

theorem Bx.kids {W : World} {b : Nat} {x : Nd} (h : Bx W b x.arr) : Rd W 1 (some ⟨b, 5, none⟩) 9 (Us x.kids) := by
  refine ⟨rfl, fun j u hu => ⟨_, rfl, ?_⟩⟩
  have hj : j < 9 := (List.getElem?_eq_some_iff.1 hu).1
  rw [Addr.add_mid, h.cell, Nd.arr_get]
  have : x.cells[5 + j]? = (Us x.kids)[j]? := by
    rcases (by omega : j = 0 ∨ j = 1 ∨ j = 2 ∨ j = 3 ∨ j = 4 ∨ j = 5 ∨ j = 6 ∨ j = 7 ∨ j = 8) with rfl | rfl | rfl | rfl | rfl | rfl | rfl | rfl | rfl <;> rfl
  rw [this, hu]

set_option maxHeartbeats 800000 in
theorem rightParts_is (x : Nd) (w : World) (hx : x.Ok) :
    Calls Try.prog 64 #[.agg x.arr] w fun e w' => e = .returned (.bool (decide x.Parts)) ∧ Ext w w' := by
  obtain ⟨b1, e1⟩ : ∃ b1, b1 = decide (Small x.pre) := ⟨_, rfl⟩
  obtain ⟨b2, e2⟩ : ∃ b2, b2 = decide (Small x.suf) := ⟨_, rfl⟩
  obtain ⟨b3, e3⟩ : ∃ b3, b3 = decide (∀ r ∈ x.kids, RefMay r) := ⟨_, rfl⟩
  have e4 : decide x.Parts = (b1 && (b2 && b3)) := by
    rw [e1, e2, e3, Bool.eq_iff_iff]
    simp only [Bool.and_eq_true, decide_eq_true_eq]
    exact Iff.rfl
  have H3 := Lib.hid (show b3 = true ↔ ∀ r ∈ x.kids, RefMay r by rw [e3, decide_eq_true_eq])
  rw [e4]
  have HU1 := Lib.hid (fun W => e1 ▸ up_is x.pre W)
  have HU2 := Lib.hid (fun W => e2 ▸ up_is x.suf W)
  have HX := Lib.hid hx
  clear e1 e2 e3 e4 hx
  have B := Bx.new w x.arr 68
  have k14 : (w.alloc (.cells x.arr 68)).cell? ⟨w.heap.size, 14, none⟩ = some (.int .i64 x.pre) := B.cell 14
  have k15 : (w.alloc (.cells x.arr 68)).cell? ⟨w.heap.size, 15, none⟩ = some (.int .i64 x.suf) := B.cell 15
  have K := Lib.hid B.kids
  clear B
  have hxt : Ext w (w.alloc (.cells x.arr 68)) := (Ext.refl w).new _
  go_enter Try.func64, Try.ntmps64
  go_wp2_with fail
  refine (HU1.out _).mono ?_; rintro e w1 ⟨rfl, rfl⟩
  cases b1
  · go_wp2_with fail
    go_ret
    exact ⟨rfl, hxt⟩
  · go_wp2_with fail
    refine (HU2.out _).mono ?_; rintro e w1 ⟨rfl, rfl⟩
    cases b2
    · go_wp2_with fail
      go_ret
      exact ⟨rfl, hxt⟩
    · go_wp2_with fail
      refine (contains_is _ 9 9 x.kids _ (by omega) K.out HX.out b3 H3.out).mono ?_; rintro e w1 ⟨rfl, rfl⟩
      go_wp2_with fail
      go_ret
      exact ⟨by simp, hxt⟩

end Go.Proofs.Ytfoifcbaadnigaa

/-
  Two whole nodes, compared; rightNode.
-/
set_option linter.unusedVariables false
set_option linter.unusedSimpArgs false
namespace Go.Proofs.Ytfoifcbaadnigaa
open Go.RowKit

/-- Two rows of integers, compared. -/
theorem equalIn_rows {P : Program} (d : Nat) (t e : TypeId) (n : Nat) (k : IntKind) (ht : P.underlying t = some (.array n e)) (he : P.underlying e = some (.int k)) (hsz : ∀ w, (sizeOf e).run P w = .ok 1 w) (xs ys : List Int) (hx : xs.length = n) (hy : ys.length = n) (w : World) :
    (Op.equalIn (d + 2) t (.agg (xs.map (Value.int k)).toArray) (.agg (ys.map (Value.int k)).toArray)).run P w = .ok (decide (xs = ys)) w := by
  have px : ∀ (zs : List Int) (i : Nat), i < zs.length → (part e (zs.map (Value.int k)).toArray (i * 1)).run P w = .ok (.int k (zs.getD i 0)) w := fun zs i hi => by
    simp [part, isAgg, run_underlying he, List.getD, List.getElem?_eq_getElem hi]
  have pe : ∀ a b : Int, (Op.equalIn (d + 1) e (.int k a) (.int k b)).run P w = .ok (a == b) w := fun a b => by rw [run_equalIn_int w d e k k _ _ he]
  have key : ∀ (m s : Nat), s + m = n → (∀ i, i < s → xs[i]? = ys[i]?) →
      (forIn (List.range' s m 1) ((none, ()) : Option Bool × Unit) fun i r => do
        let a ← part e (xs.map (Value.int k)).toArray (i * 1)
        let b ← part e (ys.map (Value.int k)).toArray (i * 1)
        let r ← Op.equalIn (d + 1) e a b
        if (!r) = true then pure (ForInStep.done (some false, ())) else pure (ForInStep.yield (none, ()))).run P w = .ok (if xs = ys then none else some false, ()) w := by
    intro m
    induction m with
    | zero =>
      intro s hs hall
      have e : xs = ys := List.ext_getElem? fun i => by
        by_cases hi : i < s
        · exact hall i hi
        · rw [List.getElem?_eq_none (by omega), List.getElem?_eq_none (by omega)]
      simp [e]
    | succ m ih =>
      intro s hs hall
      simp only [List.range'_succ, List.forIn_cons, Sem.run_bind, px xs s (by omega), px ys s (by omega), pe, Result.andThen_ok]
      have ex : xs[s]? = some (xs.getD s 0) := by simp [List.getD, List.getElem?_eq_getElem (show s < xs.length by omega)]
      have ey : ys[s]? = some (ys.getD s 0) := by simp [List.getD, List.getElem?_eq_getElem (show s < ys.length by omega)]
      by_cases hq : xs.getD s 0 = ys.getD s 0
      · have hb : (xs.getD s 0 == ys.getD s 0) = true := beq_iff_eq.mpr hq
        rw [hb]
        simp only [Bool.not_true, Bool.false_eq_true, if_false, Sem.run_pure, Result.andThen_ok]
        exact ih (s + 1) (by omega) fun i hi => by
          by_cases e : i = s
          · subst e
            rw [ex, ey]; exact congrArg some hq
          · exact hall i (by omega)
      · have hb : (xs.getD s 0 == ys.getD s 0) = false := by simpa using hq
        have hne : xs ≠ ys := fun e => hq (by rw [e])
        rw [hb]
        simp only [Bool.not_false, if_true, Sem.run_pure, Result.andThen_ok, if_neg hne]
  rw [Op.equalIn]
  simp only [Sem.run_bind, run_underlying ht, Result.andThen_ok, hsz, Std.Legacy.Range.forIn_eq_forIn_range', Std.Legacy.Range.size, Nat.sub_zero, Nat.add_sub_cancel, Nat.div_one]
  rw [key n 0 (by omega) (fun i hi => by omega)]
  by_cases h : xs = ys
  · simp [h]
  · simp [h]

theorem fields_node : Try.prog.fieldsOf 68 = (match Try.prog.underlying 68 with | some (.struct fs) => fs | _ => #[]) := by kernel_rfl
theorem kids_array (x : Nd) : x.arr.extract 5 14 = (x.kids.map (Value.int .u64)).toArray := by simp [Nd.arr, Nd.kids]

theorem Nd.ext_iff' (x y : Nd) : x = y ↔ (x.k = y.k ∧ x.g = y.g ∧ x.n = y.n ∧ x.v = y.v ∧ x.s = y.s ∧ x.kids = y.kids ∧ x.pre = y.pre ∧ x.suf = y.suf) := by
  cases x; cases y
  simp only [Nd.kids, Nd.mk.injEq, List.cons.injEq, and_true, and_assoc]

theorem eqFields_step {P : Program} {w : World} {d : Nat} {xs ys : Array Value} {f : Field} {fs : List Field} {a b : Value} {r : Bool} {ty : TypeId} {o : Nat} (ha : (part ty xs o).run P w = .ok a w) (hb : (part ty ys o).run P w = .ok b w)
    (hr : (Op.equalIn d ty a b).run P w = .ok r w) (hn : f.name ≠ "_") (ht : f.type = ty) (ho : f.offset = o) {q : Bool} (hq : (Op.eqFields d xs ys fs).run P w = .ok q w) : (Op.eqFields d xs ys (f :: fs)).run P w = .ok (r && q) w := by
  subst ht ho
  rw [Op.eqFields]
  simp only [if_pos hn, Sem.run_bind, ha, hb, hr, Result.andThen_ok]
  cases r
  · simp
  · simp [hq]

theorem kids_eq (x y : Nd) (w : World) : (Op.equalIn 9999 66 (.agg (x.kids.map (Value.int .u64)).toArray) (.agg (y.kids.map (Value.int .u64)).toArray)).run Try.prog w = .ok (decide (x.kids = y.kids)) w :=
  equalIn_rows 9997 66 31 9 .u64 Try.underlying66 Try.underlying31 (fun w => by kernel_rfl) x.kids y.kids rfl rfl w

theorem part_i64 {w : World} {t : TypeId} (ht : Try.prog.underlying t = some (.int .i64)) (x : Nd) (j : Nat) (v : Value) (hv : x.arr[j]? = some v) : (part t x.arr j).run Try.prog w = .ok v w := by
  have : x.arr.getD j undef = v := by rw [Array.getD_eq_getD_getElem?, hv]; rfl
  simp [part, isAgg, run_underlying ht, hv]
theorem part_kids {w : World} (x : Nd) : (part 66 x.arr 5).run Try.prog w = .ok (.agg (x.kids.map (Value.int .u64)).toArray) w := by
  have h : (sizeOf 66).run Try.prog w = .ok 9 w := by kernel_rfl
  simp [part, isAgg, run_underlying Try.underlying66, h, Nd.arr, Nd.kids]

theorem Nd.a0 (x : Nd) : x.arr[0]? = some (.int .i64 x.k) := by simp [Nd.arr]
theorem Nd.a1 (x : Nd) : x.arr[1]? = some (.int .i64 x.g) := by simp [Nd.arr]
theorem Nd.a2 (x : Nd) : x.arr[2]? = some (.int .i64 x.n) := by simp [Nd.arr]
theorem Nd.a3 (x : Nd) : x.arr[3]? = some (.int .i64 x.v) := by simp [Nd.arr]
theorem Nd.a4 (x : Nd) : x.arr[4]? = some (.int .i64 x.s) := by simp [Nd.arr]
theorem Nd.a14 (x : Nd) : x.arr[14]? = some (.int .i64 x.pre) := by simp [Nd.arr]
theorem Nd.a15 (x : Nd) : x.arr[15]? = some (.int .i64 x.suf) := by simp [Nd.arr]

theorem nd_eq (x y : Nd) (w : World) : (Op.equalIn 10000 68 (.agg x.arr) (.agg y.arr)).run Try.prog w = .ok (decide (x = y)) w := by
  have hu := Try.underlying68
  rw [show (10000 : Nat) = 9999 + 1 from rfl, run_equalIn_struct w 9999 68 x.arr y.arr (by kernel_rfl) (by kernel_rfl)]
  unfold Program.fieldsOf
  rw [hu]
  dsimp only
  have e : decide (x = y) = (x.k == y.k && (x.g == y.g && (x.n == y.n && (x.v == y.v && (x.s == y.s && (decide (x.kids = y.kids) && (x.pre == y.pre && (x.suf == y.suf && true)))))))) := by
    rw [Bool.eq_iff_iff]
    simp only [Bool.and_eq_true, decide_eq_true_eq, beq_iff_eq, and_true]
    exact Nd.ext_iff' x y
  rw [e]
  have p0 := part_i64 (w := w) Try.underlying3 x 0 _ x.a0
  have q0 := part_i64 (w := w) Try.underlying3 y 0 _ y.a0
  have e0 : (Op.equalIn 9999 3 (.int .i64 x.k) (.int .i64 y.k)).run Try.prog w = .ok (x.k == y.k) w := run_equalIn_int w 9998 3 .i64 .i64 _ _ Try.underlying3
  have p1 := part_i64 (w := w) Try.underlying3 x 1 _ x.a1
  have q1 := part_i64 (w := w) Try.underlying3 y 1 _ y.a1
  have e1 : (Op.equalIn 9999 3 (.int .i64 x.g) (.int .i64 y.g)).run Try.prog w = .ok (x.g == y.g) w := run_equalIn_int w 9998 3 .i64 .i64 _ _ Try.underlying3
  have p2 := part_i64 (w := w) Try.underlying2 x 2 _ x.a2
  have q2 := part_i64 (w := w) Try.underlying2 y 2 _ y.a2
  have e2 : (Op.equalIn 9999 2 (.int .i64 x.n) (.int .i64 y.n)).run Try.prog w = .ok (x.n == y.n) w := run_equalIn_int w 9998 2 .i64 .i64 _ _ Try.underlying2
  have p3 := part_i64 (w := w) Try.underlying2 x 3 _ x.a3
  have q3 := part_i64 (w := w) Try.underlying2 y 3 _ y.a3
  have e3 : (Op.equalIn 9999 2 (.int .i64 x.v) (.int .i64 y.v)).run Try.prog w = .ok (x.v == y.v) w := run_equalIn_int w 9998 2 .i64 .i64 _ _ Try.underlying2
  have p4 := part_i64 (w := w) Try.underlying2 x 4 _ x.a4
  have q4 := part_i64 (w := w) Try.underlying2 y 4 _ y.a4
  have e4 : (Op.equalIn 9999 2 (.int .i64 x.s) (.int .i64 y.s)).run Try.prog w = .ok (x.s == y.s) w := run_equalIn_int w 9998 2 .i64 .i64 _ _ Try.underlying2
  have p14 := part_i64 (w := w) Try.underlying3 x 14 _ x.a14
  have q14 := part_i64 (w := w) Try.underlying3 y 14 _ y.a14
  have e14 : (Op.equalIn 9999 3 (.int .i64 x.pre) (.int .i64 y.pre)).run Try.prog w = .ok (x.pre == y.pre) w := run_equalIn_int w 9998 3 .i64 .i64 _ _ Try.underlying3
  have p15 := part_i64 (w := w) Try.underlying3 x 15 _ x.a15
  have q15 := part_i64 (w := w) Try.underlying3 y 15 _ y.a15
  have e15 : (Op.equalIn 9999 3 (.int .i64 x.suf) (.int .i64 y.suf)).run Try.prog w = .ok (x.suf == y.suf) w := run_equalIn_int w 9998 3 .i64 .i64 _ _ Try.underlying3
  have p5 := part_kids (w := w) x
  have q5 := part_kids (w := w) y
  have e5 := kids_eq x y w
  refine eqFields_step p0 q0 e0 (by decide) rfl rfl ?_
  refine eqFields_step p1 q1 e1 (by decide) rfl rfl ?_
  refine eqFields_step p2 q2 e2 (by decide) rfl rfl ?_
  refine eqFields_step p3 q3 e3 (by decide) rfl rfl ?_
  refine eqFields_step p4 q4 e4 (by decide) rfl rfl ?_
  refine eqFields_step p5 q5 e5 (by decide) rfl rfl ?_
  refine eqFields_step p14 q14 e14 (by decide) rfl rfl ?_
  refine eqFields_step p15 q15 e15 (by decide) rfl rfl ?_
  simp [Op.eqFields]

end Go.Proofs.Ytfoifcbaadnigaa
