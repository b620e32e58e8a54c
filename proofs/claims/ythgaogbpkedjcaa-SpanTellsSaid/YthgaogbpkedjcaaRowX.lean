/-
  A row of the call's own that lies in none of some blocks, or an empty literal; append onto it.
-/
import Derived.Test.YthgaogbpkedjcaaGE
set_option linter.unusedVariables false
set_option linter.unusedSimpArgs false
namespace Go.Proofs.Ythgaogbpkedjcaa
open Go.RowKit

structure RowX (W : World) (base : Nat) (ex : List Nat) (e : TypeId) (size : Nat) (v : Value) (n : Nat) (xs : List Value) : Prop where
  row : (W.ownsRow base e size v n xs ∧ ∀ k, v.ownBlock = some k → k ∉ ex) ∨ (n = 0 ∧ xs = [] ∧ ∃ q, v = .slice (some q) 0 0)
theorem RowX.nil (W : World) (base : Nat) (ex : List Nat) (e : TypeId) (size : Nat) (q : Addr) : RowX W base ex e size (.slice (some q) 0 0) 0 [] := ⟨.inr ⟨rfl, rfl, q, rfl⟩⟩
theorem RowX.nil0 (W : World) (base : Nat) (ex : List Nat) (e : TypeId) (size : Nat) : RowX W base ex e size (.slice none 0 0) 0 [] := ⟨.inl ⟨World.ownsRow_nil _ _ _ _, fun k hk => by cases hk⟩⟩
section
variable {W W' : World} {base : Nat} {ex : List Nat} {e : TypeId} {size n : Nat} {v : Value} {xs : List Value}
theorem RowX.to (h : RowX W base ex e size v n xs) (hx : Ext W W') : RowX W' base ex e size v n xs := ⟨h.row.imp (fun h => ⟨own_ext h.1 hx, h.2⟩) id⟩
theorem RowX.only {b : Nat} (h : RowX W base ex e size v n xs) (ho : Only b W W') (hb : b ∈ ex) : RowX W' base ex e size v n xs :=
  ⟨h.row.imp (fun h => ⟨own_only h.1 ho (fun e => h.2 _ e hb), h.2⟩) id⟩
theorem RowX.old {b : Nat} (h : RowX W base ex e size v n xs) (ho : Only b W W') (hb : W.heap.size ≤ b) : RowX W' base ex e size v n xs :=
  ⟨h.row.imp (fun h => ⟨own_only h.1 ho (fun e => by have := (h.1.lt _ e).2; omega), h.2⟩) id⟩
/-- A block that is made is none of the row's. -/
theorem RowX.add (h : RowX W base ex e size v n xs) (hx : Ext W W') {b : Nat} (hb : W.heap.size ≤ b) : RowX W' base (b :: ex) e size v n xs :=
  ⟨h.row.imp (fun h => ⟨own_ext h.1 hx, fun k hk hm => by
    rcases List.mem_cons.1 hm with rfl | hm
    · have := (h.1.lt k hk).2; omega
    · exact h.2 k hk hm⟩) id⟩
theorem RowX.sub {ex' : List Nat} (h : RowX W base ex e size v n xs) (hs : ∀ b ∈ ex', b ∈ ex) : RowX W base ex' e size v n xs :=
  ⟨h.row.imp (fun h => ⟨h.1, fun k hk hm => h.2 k hk (hs k hm)⟩) id⟩
theorem RowX.slice (h : RowX W base ex e size v n xs) : ∃ A c, v = .slice A n c ∧ n ≤ c ∧ c ≤ maxLen := by
  rcases h.row with h | ⟨rfl, rfl, q, rfl⟩
  · obtain ⟨A, c, rfl⟩ := own_slice h.1
    rcases h.1.2 with ⟨hv, h0⟩ | ⟨g, cap, cur, hv, _, _, hn, hm, _⟩
    · injection hv with _ h1 h2
      exact ⟨A, c, rfl, by omega, by unfold maxLen; omega⟩
    · injection hv with _ _ h2
      subst h2
      exact ⟨A, c, rfl, hn, hm⟩
  · exact ⟨_, _, rfl, Nat.le_refl _, by unfold maxLen; omega⟩
theorem RowX.rd {A : Option Addr} {c : Nat} (h : RowX W base ex e size (.slice A n c) n xs) : Rd W size A n xs := by
  rcases h.row with h | ⟨rfl, rfl, q, hq⟩
  · exact Rd.own h.1
  · exact Rd.nil W size A
end

/-- What an append leaves alone. -/
structure Apd (W W' : World) (base : Nat) (ex : List Nat) : Prop where
  size : W.heap.size ≤ W'.heap.size
  keep : ∀ b cs, b ∈ ex → Bx W b cs → Bx W' b cs
  old : ∀ w0 : World, Ext w0 W → w0.heap.size ≤ base → Ext w0 W'

theorem run_append_x {P : Program} (w : World) (t ty e : TypeId) (i : TypeInfo) (z : Value) (size bytes : Nat) (ht : P.underlying t = some (.slice e)) (hi : P.info? e = some i) (hz : i.zero = some z)
    (hsize : i.size = size) (hby : i.bytes = bytes) (hzs : z.cells.size = size) (hsz : 0 < size) (base : Nat) (ex : List Nat) (v : Value) (n : Nat) (xs : List Value) (hr : RowX w base ex e size v n xs)
    (A : Option Addr) (m c : Nat) (news : List Value) (hn : Rd w size A m news) (h1 : ∀ u ∈ news, u.oneCell' = true) (h63 : n + m ≤ maxLen) (hbytes : (n + m) * bytes ≤ 140737488355328) (hbase : base ≤ w.heap.size) (hex : ∀ b ∈ ex, b < w.heap.size) :
    ∃ A' c' w', (Builtin.append_ #[t, t] ty #[v, .slice A m c]).run P w = .ok (.slice A' (n + m : Nat) c') w' ∧ RowX w' base ex e size (.slice A' (n + m : Nat) c') (n + m) (xs ++ news) ∧ Apd w w' base ex := by
  rcases hr.row with ⟨hown, hap⟩ | ⟨rfl, rfl, q, rfl⟩
  · obtain ⟨v', w', hrun, h2, h3, h4⟩ := run_append_rd (P := P) w base t ty e i z size bytes ht hi hz hsize hby hzs hsz v n xs hown A m c news hn h1 h63 hbytes hbase
    obtain ⟨A', c', rfl⟩ := own_slice h2
    refine ⟨A', c', w', hrun, ⟨.inl ⟨h2, fun k hk hm => ?_⟩⟩, h3.size, fun b cs hb hB => hB.grown h3 (fun e => hap _ e hb), fun w0 h0 hb => own_back h0 h0.size h3 (fun k hk => Nat.le_trans hb (hown.lt k hk).1)⟩
    rcases h4 with e | e
    · exact hap k (by rw [← e]; exact hk) hm
    · rw [e] at hk
      injection hk with hk
      have := hex k hm
      omega
  · obtain ⟨A', c', w', hrun, h2, h3⟩ := run_append_new (P := P) w t ty e i z size bytes ht hi hz hsize hby hzs hsz q A m c news hn h1 (by omega) (by simpa using hbytes)
    refine ⟨A', c', w', by simpa using hrun, ⟨?_⟩, h3.size, fun b cs hb hB => hB.to h3, fun w0 h0 hb => h0.step h3⟩
    rcases h2 with h2 | ⟨rfl, rfl, q', hq'⟩
    · refine .inl ⟨by simpa using own_base h2 hbase, fun k hk hm => ?_⟩
      have hk' : (Value.slice A' m c').ownBlock = some k := by simpa using hk
      have := (h2.lt k hk').1
      have := hex k hm
      omega
    · exact .inr ⟨rfl, rfl, q', by simpa using hq'⟩

theorem wpList_append_x {P : Program} (w : World) {ops : Array Oper} {rest : List Oper} {o : Oper} {a : Act} {Q : Exit → Act → World → Prop} (hgd : o.guard = none) (s x : Operand) (t : TypeId)
    (ho : o.op = .call { callee := .builtin .append, args := #[s, x], argTypes := #[t, t] })
    (e : TypeId) (i : TypeInfo) (z : Value) (size bytes : Nat) (ht : P.underlying t = some (.slice e)) (hi : P.info? e = some i) (hz : i.zero = some z)
    (hsize : i.size = size) (hby : i.bytes = bytes) (hzs : z.cells.size = size) (hsz : 0 < size) (base : Nat) (ex : List Nat)
    (v : Value) (n : Nat) (xs : List Value) (hs : a.eval s = v) (hr : RowX w base ex e size v n xs)
    (A : Option Addr) (m c : Nat) (news : List Value) (hx : a.eval x = .slice A m c) (hn : Rd w size A m news) (h1 : ∀ u ∈ news, u.oneCell' = true)
    (h63 : n + m ≤ maxLen) (hbytes : (n + m) * bytes ≤ 140737488355328) (hbase : base ≤ w.heap.size) (hex : ∀ b ∈ ex, b < w.heap.size)
    (h : ∀ A' c' w', RowX w' base ex e size (.slice A' (n + m : Nat) c') (n + m) (xs ++ news) → Apd w w' base ex → wpList P ops Q rest (a.put o.dst (.slice A' (n + m : Nat) c')) w') :
    wpList P ops Q (o :: rest) a w := by
  refine wpList_plain hgd fun K hK => ?_
  obtain ⟨A', c', w', hrun, h2, h3⟩ := run_append_x (P := P) w t o.type e i z size bytes ht hi hz hsize hby hzs hsz base ex v n xs hr A m c news hn h1 h63 hbytes hbase hex
  unfold Oper.wp execOp
  simp only [ho, resolve, invoke, builtin, Sem.run_bind, Sem.run_pure, Result.andThen_ok, List.map_toArray, List.map_cons, List.map_nil, hs, hx, hrun]
  exact hK _ _ (h A' c' w' h2 h3)
end Go.Proofs.Ythgaogbpkedjcaa
