/-
  append onto an empty literal, wherever it lies.
-/
import Derived.Test.YtmfpgbiicncpcaaOwnN
import Derived.ArgAppend
import Derived.Deep.RegionLaw
set_option linter.unusedVariables false
set_option linter.unusedSimpArgs false
namespace Go.Proofs.Ytmfpgbiicncpcaa
open Go.RowKit

/-- A row of the call's own, or an empty literal. -/
def Lit0 (W : World) (base : Nat) (e : TypeId) (size : Nat) (v : Value) (n : Nat) (xs : List Value) : Prop :=
  W.ownsRow base e size v n xs ∨ (n = 0 ∧ xs = [] ∧ ∃ q, v = .slice (some q) 0 0)
theorem Lit0.to {W W' : World} {base : Nat} {e : TypeId} {size n : Nat} {v : Value} {xs : List Value} (h : Lit0 W base e size v n xs) (hx : Ext W W') : Lit0 W' base e size v n xs :=
  h.imp (fun h => own_ext h hx) id
theorem Lit0.base {W : World} {base base' : Nat} {e : TypeId} {size n : Nat} {v : Value} {xs : List Value} (h : Lit0 W base e size v n xs) (hb : base' ≤ base) : Lit0 W base' e size v n xs :=
  h.imp (fun h => own_base h hb) id
theorem Ext.of_grown {w w' : World} (h : w.grownBy w' none) : Ext w w' := ⟨h.os, h.tape, h.output, h.size, fun k hk => h.block k hk (by simp)⟩

theorem run_append_new {P : Program} (w : World) (t ty e : TypeId) (i : TypeInfo) (z : Value) (size bytes : Nat) (ht : P.underlying t = some (.slice e)) (hi : P.info? e = some i) (hz : i.zero = some z) (hsize : i.size = size) (hby : i.bytes = bytes) (hzs : z.cells.size = size) (hsz : 0 < size)
    (q : Addr) (A : Option Addr) (m c : Nat) (news : List Value) (hr : Rd w size A m news) (h1 : ∀ u ∈ news, u.oneCell' = true) (h63 : m ≤ maxLen) (hbytes : m * bytes ≤ 140737488355328) :
    ∃ A' c' w', (Builtin.append_ #[t, t] ty #[.slice (some q) 0 0, .slice A m c]).run P w = .ok (.slice A' m c') w' ∧ Lit0 w' w.heap.size e size (.slice A' m c') m news ∧ Ext w w' := by
  rcases Nat.eq_zero_or_pos m with rfl | hm
  · have hn : news = [] := List.eq_nil_of_length_eq_zero (by simpa using hr.1)
    subst hn
    refine ⟨some q, 0, w, ?_, .inr ⟨rfl, rfl, q, rfl⟩, Ext.refl w⟩
    cases A with
    | none => simp [Builtin.append_, run_underlying ht, sizeOf, typeInfo, hi, Builtin.lenOf, Builtin.firstCells, storeCells]
    | some ad =>
      have hfc := run_firstCells_some (P := P) w i.size 0 ad 0 c [] (by simp) (by simp)
      simp [Builtin.append_, run_underlying ht, sizeOf, typeInfo, hi, Builtin.lenOf, hfc, storeCells]
  · obtain ⟨ad, rfl⟩ := hr.some_ hm hsz
    obtain ⟨v', w', hrun, r1, r2⟩ := run_append_arg_grows (P := P) w t ty e i z size bytes ht hi hz hsize hby hzs hsz q 0 0 [] (by simp) (by simp) ad m c news hr.1 hr.cells (by omega) (by simpa using h63) (by simpa using hbytes)
    simp only [Nat.zero_add, List.nil_append] at r1
    obtain ⟨A', c', rfl⟩ := own_slice r1
    exact ⟨A', c', w', hrun, .inl r1, Ext.of_grown r2⟩

/-- .. AT A STEP OF A REGION THAT DRAWS. -/
theorem step_append_new {P : Program} {w : World} {ops : Array Oper} {o : Oper} {a : Act} {K : Act → World → Prop} {Q : Exit → Act → World → Prop} {E : Prop} (hgd : o.guard = none) (s x : Operand) (t : TypeId)
    (ho : o.op = .call { callee := .builtin .append, args := #[s, x], argTypes := #[t, t] })
    (e : TypeId) (i : TypeInfo) (z : Value) (size bytes : Nat) (ht : P.underlying t = some (.slice e)) (hi : P.info? e = some i) (hz : i.zero = some z)
    (hsize : i.size = size) (hby : i.bytes = bytes) (hzs : z.cells.size = size) (hsz : 0 < size)
    (q : Addr) (hs : a.eval s = .slice (some q) 0 0) (A : Option Addr) (m c : Nat) (news : List Value) (hx : a.eval x = .slice A m c) (hr : Rd w size A m news) (h1 : ∀ u ∈ news, u.oneCell' = true)
    (h63 : m ≤ maxLen) (hbytes : m * bytes ≤ 140737488355328)
    (h : ∀ A' c' w', Lit0 w' w.heap.size e size (.slice A' m c') m news → Ext w w' → K (a.put o.dst (.slice A' m c')) w') :
    if Region.wanted o (yielded ops a.tmps) = true then Oper.wp P o a w K Q else E := by
  have hw : Region.wanted o (yielded ops a.tmps) = true := by simp [Region.wanted, hgd]
  rw [if_pos hw]
  obtain ⟨A', c', w', hrun, h2, h3⟩ := run_append_new (P := P) w t o.type e i z size bytes ht hi hz hsize hby hzs hsz q A m c news hr h1 h63 hbytes
  unfold Oper.wp
  simp [execOp, ho, resolve, invoke, builtin, hs, hx, hrun, Result.andThen]
  exact h A' c' w' h2 h3

/-- .. and between which blocks it lies. -/
def RowOr (W : World) (lo hi : Nat) (e : TypeId) (size : Nat) (v : Value) (n : Nat) (xs : List Value) : Prop :=
  (W.ownsRow lo e size v n xs ∧ ∀ k, v.ownBlock = some k → k < hi) ∨ (n = 0 ∧ xs = [] ∧ ∃ q, v = .slice (some q) 0 0)
theorem RowOr.to {W W' : World} {lo hi : Nat} {e : TypeId} {size n : Nat} {v : Value} {xs : List Value} (h : RowOr W lo hi e size v n xs) (hx : Ext W W') : RowOr W' lo hi e size v n xs :=
  h.imp (fun h => ⟨own_ext h.1 hx, h.2⟩) id
theorem Lit0.or {W : World} {base : Nat} {e : TypeId} {size n : Nat} {v : Value} {xs : List Value} (h : Lit0 W base e size v n xs) : RowOr W base W.heap.size e size v n xs :=
  h.imp (fun h => ⟨h, fun k hk => (h.lt k hk).2⟩) id

/-- A row of the call's own that lies in neither of two blocks, or an empty literal. -/
def RowB (W : World) (base b g : Nat) (e : TypeId) (size : Nat) (v : Value) (n : Nat) (xs : List Value) : Prop :=
  (W.ownsRow base e size v n xs ∧ ∀ k, v.ownBlock = some k → k ≠ b ∧ k ≠ g) ∨ (n = 0 ∧ xs = [] ∧ ∃ q, v = .slice (some q) 0 0)
theorem RowB.to {W W' : World} {base b g : Nat} {e : TypeId} {size n : Nat} {v : Value} {xs : List Value} (h : RowB W base b g e size v n xs) (hx : Ext W W') : RowB W' base b g e size v n xs :=
  h.imp (fun h => ⟨own_ext h.1 hx, h.2⟩) id
theorem RowB.only {W W' : World} {base b g j : Nat} {e : TypeId} {size n : Nat} {v : Value} {xs : List Value} (h : RowB W base b g e size v n xs) (ho : Only j W W') (hj : j = b ∨ j = g) : RowB W' base b g e size v n xs :=
  h.imp (fun h => ⟨own_only h.1 ho (fun e => by have := h.2 _ e; omega), h.2⟩) id
theorem RowB.rd {W : World} {base b g : Nat} {e : TypeId} {size n c : Nat} {A : Option Addr} {xs : List Value} (h : RowB W base b g e size (.slice A n c) n xs) : Rd W size A n xs := by
  rcases h with h | ⟨rfl, rfl, q, hq⟩
  · exact Rd.own h.1
  · exact Rd.nil W size A
theorem RowB.slice {W : World} {base b g : Nat} {e : TypeId} {size n : Nat} {v : Value} {xs : List Value} (h : RowB W base b g e size v n xs) : ∃ A c, v = .slice A n c := by
  rcases h with h | ⟨rfl, rfl, q, rfl⟩
  · exact own_slice h.1
  · exact ⟨_, _, rfl⟩

/-- append onto such a row, at a plain region's list. -/
theorem wpList_append_b {P : Program} (w : World) {ops : Array Oper} {rest : List Oper} {o : Oper} {a : Act} {Q : Exit → Act → World → Prop} (hgd : o.guard = none) (s x : Operand) (t : TypeId)
    (ho : o.op = .call { callee := .builtin .append, args := #[s, x], argTypes := #[t, t] })
    (base b g : Nat) (e : TypeId) (i : TypeInfo) (z : Value) (size bytes : Nat) (ht : P.underlying t = some (.slice e)) (hi : P.info? e = some i) (hz : i.zero = some z)
    (hsize : i.size = size) (hby : i.bytes = bytes) (hzs : z.cells.size = size) (hsz : 0 < size)
    (v : Value) (n : Nat) (xs : List Value) (hs : a.eval s = v) (hown : RowB w base b g e size v n xs)
    (A : Option Addr) (m c : Nat) (news : List Value) (hx : a.eval x = .slice A m c) (hr : Rd w size A m news) (h1 : ∀ u ∈ news, u.oneCell' = true) (hm : 0 < m)
    (h63 : n + m ≤ maxLen) (hbytes : (n + m) * bytes ≤ 140737488355328) (hbase : base ≤ w.heap.size) (hb : b < w.heap.size) (hg : g < w.heap.size)
    (h : ∀ A' c' w' r, RowB w' base b g e size (.slice A' (n + m) c') (n + m) (xs ++ news) → w.grownBy w' r → r ≠ some b → r ≠ some g → (∀ k, r = some k → base ≤ k) → wpList P ops Q rest (a.put o.dst (.slice A' (n + m) c')) w') :
    wpList P ops Q (o :: rest) a w := by
  rcases hown with ⟨hown, hap⟩ | ⟨rfl, rfl, q, rfl⟩
  · refine wpList_append_rd w hgd s x t ho base e i z size bytes ht hi hz hsize hby hzs hsz v n xs hs hown A m c news hx hr h1 h63 hbytes hbase fun v' w' g1 g2 g3 => ?_
    obtain ⟨A', c', rfl⟩ := own_slice g1
    refine h A' c' w' _ (.inl ⟨g1, fun k hk => ?_⟩) g2 (fun e => (hap _ e).1 rfl) (fun e => (hap _ e).2 rfl) (fun k hk => (hown.lt k hk).1)
    rcases g3 with e | e
    · exact hap k (by rw [← e]; exact hk)
    · rw [e] at hk
      injection hk with hk
      omega
  · obtain ⟨ad, rfl⟩ := hr.some_ hm hsz
    refine wpList_append_grows w hgd s x t ho e i z size bytes ht hi hz hsize hby hzs hsz (some q) 0 0 [] hs (by simp) (by simp) (by simp) ad m c news hx hr.1 hr.cells h1 (by omega) (by simpa using h63) (by simpa using hbytes) fun v' w' g1 g2 => ?_
    obtain ⟨A', c', rfl⟩ := own_slice g1
    exact h A' c' w' none (.inl ⟨own_base (by simpa using g1) hbase, fun k hk => by have := (g1.lt k hk).1; omega⟩) g2 (by simp) (by simp) (fun k hk => by cases hk)

end Go.Proofs.Ytmfpgbiicncpcaa
