/-
  The least and the greatest of three numbers; an append where a guard holds; the rows between in two parts.
-/
import Derived.Test.YthgaogbpkedjcaaSpLaw
import Derived.Test.YthgaogbpkedjcaaMinMax
set_option linter.unusedVariables false
set_option linter.unusedSimpArgs false
namespace Go.Proofs.Ythgaogbpkedjcaa
open Go.RowKit

theorem wpList_min3 {P : Program} {ops : Array Oper} {rest : List Oper} {o : Oper} {a : Act} {w : World} {Q : Exit → Act → World → Prop} (hgd : o.guard = none) (x y u : Operand) (t : TypeId)
    (ho : o.op = .call { callee := .builtin .min, args := #[x, y, u], argTypes := #[t, t, t] }) (p q r m : Int) (hx : a.eval x = .int .i64 p) (hy : a.eval y = .int .i64 q) (hu : a.eval u = .int .i64 r) (hm : min (min p q) r = m)
    (h : wpList P ops Q rest (a.put o.dst (.int .i64 m)) w) : wpList P ops Q (o :: rest) a w := by
  refine wpList_plain hgd fun K hK => ?_
  unfold Oper.wp execOp
  simp only [ho, resolve, invoke, builtin, Sem.run_bind, Sem.run_pure, Result.andThen_ok, List.map_toArray, List.map_cons, List.map_nil, hx, hy, hu]
  have hr : (Builtin.min_ #[t, t, t] o.type #[.int .i64 p, .int .i64 q, .int .i64 r]).run P w = .ok (.int .i64 (if r < (if q < p then q else p) then r else (if q < p then q else p))) w := by simp [Builtin.min_, Builtin.min2]
  have hv : (if r < (if q < p then q else p) then r else (if q < p then q else p)) = m := by split <;> split <;> omega
  rw [hr, hv]
  exact hK _ _ h
theorem wpList_max3 {P : Program} {ops : Array Oper} {rest : List Oper} {o : Oper} {a : Act} {w : World} {Q : Exit → Act → World → Prop} (hgd : o.guard = none) (x y u : Operand) (t : TypeId)
    (ho : o.op = .call { callee := .builtin .max, args := #[x, y, u], argTypes := #[t, t, t] }) (p q r m : Int) (hx : a.eval x = .int .i64 p) (hy : a.eval y = .int .i64 q) (hu : a.eval u = .int .i64 r) (hm : max (max p q) r = m)
    (h : wpList P ops Q rest (a.put o.dst (.int .i64 m)) w) : wpList P ops Q (o :: rest) a w := by
  refine wpList_plain hgd fun K hK => ?_
  unfold Oper.wp execOp
  simp only [ho, resolve, invoke, builtin, Sem.run_bind, Sem.run_pure, Result.andThen_ok, List.map_toArray, List.map_cons, List.map_nil, hx, hy, hu]
  have hr : (Builtin.max_ #[t, t, t] o.type #[.int .i64 p, .int .i64 q, .int .i64 r]).run P w = .ok (.int .i64 (if r > (if q > p then q else p) then r else (if q > p then q else p))) w := by simp [Builtin.max_, Builtin.max2]
  have hv : (if r > (if q > p then q else p) then r else (if q > p then q else p)) = m := by split <;> split <;> omega
  rw [hr, hv]
  exact hK _ _ h
theorem wpList_append_xg {P : Program} (w : World) {ops : Array Oper} {rest : List Oper} {o : Oper} {a : Act} {Q : Exit → Act → World → Prop} (hgd : Region.wanted o (yielded ops a.tmps) = true) (s x : Operand) (t : TypeId)
    (ho : o.op = .call { callee := .builtin .append, args := #[s, x], argTypes := #[t, t] })
    (e : TypeId) (i : TypeInfo) (z : Value) (size bytes : Nat) (ht : P.underlying t = some (.slice e)) (hi : P.info? e = some i) (hz : i.zero = some z)
    (hsize : i.size = size) (hby : i.bytes = bytes) (hzs : z.cells.size = size) (hsz : 0 < size) (base : Nat) (ex : List Nat)
    (v : Value) (n : Nat) (xs : List Value) (hs : a.eval s = v) (hr : RowX w base ex e size v n xs)
    (A : Option Addr) (m c : Nat) (news : List Value) (hx : a.eval x = .slice A m c) (hn : Rd w size A m news) (h1 : ∀ u ∈ news, u.oneCell' = true)
    (h63 : n + m ≤ maxLen) (hbytes : (n + m) * bytes ≤ 140737488355328) (hbase : base ≤ w.heap.size) (hex : ∀ b ∈ ex, b < w.heap.size)
    (h : ∀ A' c' w', RowX w' base ex e size (.slice A' (n + m : Nat) c') (n + m) (xs ++ news) → Apd w w' base ex → wpList P ops Q rest (a.put o.dst (.slice A' (n + m : Nat) c')) w') :
    wpList P ops Q (o :: rest) a w :=
  Go.BigFrame.wpList_want hgd fun K hK => by
    obtain ⟨A', c', w', hrun, h2, h3⟩ := run_append_x (P := P) w t o.type e i z size bytes ht hi hz hsize hby hzs hsz base ex v n xs hr A m c news hn h1 h63 hbytes hbase hex
    unfold Oper.wp execOp
    simp only [ho, resolve, invoke, builtin, Sem.run_bind, Sem.run_pure, Result.andThen_ok, List.map_toArray, List.map_cons, List.map_nil, hs, hx, hrun]
    exact hK _ _ (h A' c' w' h2 h3)

theorem inn_same {l : Row} {a b a' b' : Int} (h : ∀ x ∈ l, (a ≤ x.1 ∧ x.1 ≤ b) ↔ (a' ≤ x.1 ∧ x.1 ≤ b')) : inn l a b = inn l a' b' := by
  unfold inn
  apply List.filter_congr
  intro x hx
  have := h x hx
  rw [Bool.eq_iff_iff]
  simpa using this
theorem inn_parts {l : Row} (hs : Srt l) {a m b : Int} (h1 : a ≤ m) (h2 : m ≤ b) : inn l a m ++ inn l (m + 1) b = inn l a b := by
  have e := lo_ge hs (m + 1)
  have hlo : ∀ x ∈ lo l (m + 1), x.1 < m + 1 := fun x hx => (mem_lo.1 hx).2
  have hge : ∀ x ∈ ge l (m + 1), m + 1 ≤ x.1 := fun x hx => (mem_ge.1 hx).2
  rw [← e, inn_app, inn_app, inn_app]
  generalize lo l (m + 1) = p at *
  generalize ge l (m + 1) = q at *
  rw [inn_high (l := q) (a := a) (b := m) (fun x hx => by have := hge x hx; omega), inn_low (l := p) (a := m + 1) (b := b) (fun x hx => by have := hlo x hx; omega), List.append_nil, List.nil_append]
  rw [inn_same (l := p) (a := a) (b := m) (a' := a) (b' := b) (fun x hx => by have := hlo x hx; omega), inn_same (l := q) (a := m + 1) (b := b) (a' := a) (b' := b) (fun x hx => by have := hge x hx; omega)]

end Go.Proofs.Ythgaogbpkedjcaa
