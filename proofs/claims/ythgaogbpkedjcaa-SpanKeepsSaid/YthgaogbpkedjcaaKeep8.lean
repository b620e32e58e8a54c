/-
  What SpanKeeps keeps: an arena and a cursor in variables, and a row of items that grows.
-/
import Derived.Test.YthgaogbpkedjcaaKeep6
import Derived.Test.YthgaogbpkedjcaaSpLaw
set_option linter.unusedVariables false
set_option linter.unusedSimpArgs false
namespace Go.Proofs.Ythgaogbpkedjcaa
open Go.RowKit

theorem add_off (a : Addr) (j : Nat) (hj : j ≠ 0) : a.add j = ⟨a.block, a.off + j, none⟩ := by
  unfold Addr.add
  simp [hj]
/-- Many cells do not lie in a block of few. -/
theorem Rd.notin {W : World} {size n b : Nat} {A : Option Addr} {xs : List Value} {cs : Array Value} (h : Rd W size A n xs) (hb : Bx W b cs) (hc : cs.size < xs.length) : ∀ q, A = some q → q.block ≠ b := fun q hq e => by
  by_cases h1 : xs.length = 1
  · have h0 : cs.size = 0 := by omega
    obtain ⟨u, hu⟩ : ∃ u, xs[0]? = some u := ⟨_, List.getElem?_eq_getElem (by omega)⟩
    obtain ⟨ad, ha, hx⟩ := h.2 0 u hu
    rw [hq] at ha
    injection ha with ha
    subst ha
    obtain ⟨qb, qo, qs⟩ := q
    simp only at e
    subst e
    have hx' : W.cell? ⟨qb, qo, qs⟩ = some u := hx
    cases qs with
    | none => rw [hb.cell qo] at hx'; simp [Array.getElem?_eq_none (show cs.size ≤ qo by omega)] at hx'
    | some s =>
      unfold World.cell? at hx'
      simp only [Option.isSome_some, if_true] at hx'
      split at hx' <;> cases hx'
  · obtain ⟨u, hu⟩ : ∃ u, xs[xs.length - 1]? = some u := ⟨_, List.getElem?_eq_getElem (by omega)⟩
    obtain ⟨ad, ha, hx⟩ := h.2 _ u hu
    rw [hq] at ha
    injection ha with ha
    subst ha
    rw [add_off _ _ (by omega), e, hb.cell] at hx
    rw [Array.getElem?_eq_none (by omega)] at hx
    cases hx
theorem Rd.sz {W W' : World} {size n b : Nat} {A : Option Addr} {xs : List Value} {cs : Array Value} (h : Rd W size A n xs) (ho : Only b W W') (hb : Bx W b cs) (hc : cs.size < xs.length) : Rd W' size A n xs :=
  ho.rd h (h.notin hb hc)
theorem Av.sz {W W' : World} {A B : Option Addr} {n m b : Nat} {ns : List Nd} {fs : List Int} {cs : Array Value} (h : Av W A n B m ns fs) (ho : Only b W W') (hb : Bx W b cs) (hc : cs.size ≤ 4) (hf : 5 ≤ fs.length) : Av W' A n B m ns fs := by
  have hp := h.may.pos
  refine ⟨⟨h.ar.nodes.sz ho hb ?_, h.ar.free.sz ho hb ?_, h.ar.ok⟩, h.may⟩
  · rw [flat_length Nd.cells_length]; omega
  · simp [Ks]; omega

/-- A small number. -/
def small (u : Value) : Prop := ∃ z : Int, u = .int .i64 z ∧ z < 40
/-- Behind a turn of a block of small numbers. -/
theorem Av.small {W W' : World} {A B : Option Addr} {n m g : Nat} {ns : List Nd} {fs : List Int} {cur : Array Value} {e : TypeId} (h : Av W A n B m ns fs) (hg : W.grownBy W' (some g)) (hc : W.heap[g]? = some (.cells cur e (0, 0))) (hs : ∀ u ∈ cur.toList, small u) (hf : 41 ≤ fs.length) : Av W' A n B m ns fs := by
  have hcell : ∀ (q : Addr) (u : Value), W.cell? q = some u → q.block = g → Go.Proofs.Ythgaogbpkedjcaa.small u := fun q u hq e => by
    obtain ⟨qb, qo, qs⟩ := q
    simp only at e
    subst e
    cases qs with
    | none =>
      simp [World.cell?, hc] at hq
      exact hs u (by rw [Array.mem_toList_iff]; exact Array.mem_of_getElem? hq)
    | some x =>
      unfold World.cell? at hq
      simp only [Option.isSome_some, if_true] at hq
      split at hq <;> cases hq
  have hno : ∀ {size k : Nat} {C : Option Addr} {xs : List Value} {j : Nat} {u : Value}, Rd W size C k xs → xs[j]? = some u → ¬ Go.Proofs.Ythgaogbpkedjcaa.small u → Rd W' size C k xs := fun {size k C xs j u} h hj hu =>
    h.grown hg fun q hq e => by
      obtain ⟨ad, ha, hx⟩ := h.2 j u hj
      rw [hq] at ha
      injection ha with ha
      subst ha
      injection e with e
      exact hu (hcell _ _ hx (by rw [addr_block]; exact e.symm))
  refine ⟨⟨?_, ?_, h.ar.ok⟩, h.may⟩
  · have hp := h.may.pos
    cases ns with
    | nil => simp at hp
    | cons x ns => exact hno (j := 5) (u := .int .u64 x.r0) h.ar.nodes rfl (by rintro ⟨z, h, _⟩; cases h)
  · obtain ⟨x, hx, hx40⟩ : ∃ x ∈ fs, 40 ≤ x := by
      by_cases hh : ∃ x ∈ fs, 40 ≤ x
      · exact hh
      · have h1 : fs.length ≤ 40 := nodup_len h.may.frees.2.1 (fun y hy => ⟨(h.may.frees.1 y hy).1, by
          by_cases h2 : 40 ≤ y
          · exact absurd ⟨y, hy, h2⟩ hh
          · omega⟩)
        omega
    obtain ⟨j, hj⟩ := List.getElem?_of_mem hx
    refine hno (j := j) (u := .int .i64 x) h.ar.free (by rw [Ks, List.getElem?_map, hj]; rfl) ?_
    rintro ⟨z, hz, hz4⟩
    injection hz with _ hz
    omega

/-- A row of items of the call's own, of whose block all cells are of a kind. -/
structure OwnQ (W : World) (base : Nat) (v : Value) (n : Nat) (xs : List Value) (P : Value → Prop) : Prop where
  own : W.ownsRow base 40 2 v n xs
  all : ∀ g, v.ownBlock = some g → ∃ cur : Array Value, W.heap[g]? = some (.cells cur 40 (0, 0)) ∧ ∀ u ∈ cur.toList, P u
section
variable {W W' : World} {base n : Nat} {v : Value} {xs : List Value} {P : Value → Prop}
theorem OwnQ.nil (W : World) (base : Nat) (P : Value → Prop) : OwnQ W base (.slice none 0 0) 0 [] P := ⟨World.ownsRow_nil _ _ _ _, fun g hg => by cases hg⟩
theorem OwnQ.grown {r : Option Nat} (h : OwnQ W base v n xs P) (hg : W.grownBy W' r) (hr : ∀ g, v.ownBlock = some g → r ≠ some g) : OwnQ W' base v n xs P := by
  have hb : ∀ g, v.ownBlock = some g → W'.heap[g]? = W.heap[g]? := fun g hv => hg.block g (by
    obtain ⟨cur, hc, _⟩ := h.all g hv
    exact (Array.getElem?_eq_some_iff.1 hc).1) (fun e => hr g hv e.symm)
  refine ⟨⟨h.own.1, ?_⟩, fun g hv => by rw [hb g hv]; exact h.all g hv⟩
  rcases h.own.2 with h' | ⟨g, cap, cur, rfl, h1, h2, h3⟩
  · exact .inl h'
  · exact .inr ⟨g, cap, cur, rfl, h1, by rw [hb g rfl]; exact h2, h3⟩
theorem OwnQ.to (h : OwnQ W base v n xs P) (hx : Ext W W') : OwnQ W' base v n xs P :=
  h.grown (r := none) ⟨hx.os, hx.tape, hx.output, hx.size, fun k hk _ => hx.block k hk⟩ (fun g _ e => by cases e)
theorem OwnQ.ge (h : OwnQ W base v n xs P) {g : Nat} (hv : v.ownBlock = some g) : base ≤ g := (h.own.lt g hv).1
end
theorem run_append_q {P : Program} (w : World) (base : Nat) (t ty : TypeId) (i : TypeInfo) (p q : Value) (bytes : Nat) (ht : P.underlying t = some (.slice 40)) (hi : P.info? 40 = some i) (hz : i.zero = some (.agg #[p, q])) (hsize : i.size = 2) (hby : i.bytes = bytes)
    (Q : Value → Prop) (hp : Q p) (hq : Q q) (v : Value) (n : Nat) (xs : List Value) (hown : OwnQ w base v n xs Q) (a : Addr) (c : Nat) (x y : Value) (hx : ∀ j u, [x, y][j]? = some u → w.cell? (a.add j) = some u) (h1 : x.oneCell' = true) (h2 : y.oneCell' = true) (hQx : Q x) (hQy : Q y)
    (h63 : n + 1 ≤ maxLen) (hbytes : (n + 1) * bytes ≤ 140737488355328) (hbase : base ≤ w.heap.size) :
    ∃ v' w', (Builtin.append_ #[t, t] ty #[v, .slice (some a) 1 c]).run P w = .ok v' w' ∧ OwnQ w' base v' (n + 1) (xs ++ [x, y]) Q ∧ w.grownBy w' v.ownBlock := by
  obtain ⟨v', w', hr, ho, hg, _, _⟩ := run_append_own_at (P := P) w base t ty 40 i (.agg #[p, q]) 2 bytes ht hi hz hsize hby rfl (by omega) v n xs hown.own a 1 c [x, y] (by simp) hx (by simp [h1, h2]) h63 hbytes hbase
  refine ⟨v', w', hr, ⟨ho, ?_⟩, hg⟩
  have hzero : ∀ k, ∀ u ∈ (Builtin.zeroCells (Value.agg #[p, q]).cells k).toList, Q u := fun k u hu => by
    simp only [Value.cells, Builtin.zeroCells] at hu
    rw [Array.mem_toList_iff, Array.mem_map] at hu
    obtain ⟨y, _, rfl⟩ := hu
    have h2 : y % (#[p, q] : Array Value).size < 2 := Nat.mod_lt _ (by simp)
    generalize y % (#[p, q] : Array Value).size = z at h2
    rcases z with _ | _ | z
    · exact hp
    · exact hq
    · omega
  subst hby
  have hsmall : n + 1 ≤ 9223372036854775807 := by simp only [maxLen] at h63; omega
  have hxy : ∀ u ∈ [x, y], Q u := fun u hu => by
    simp at hu
    rcases hu with rfl | rfl
    · exact hQx
    · exact hQy
  rcases hown.own.2 with ⟨rfl, rfl⟩ | ⟨g, cap, cur, rfl, hbg, hgc, hnc, hcm, hcs, htake⟩
  · have hr2 := run_append_nil (P := P) w t ty 40 i (.agg #[p, q]) ht hi hz a 1 c [x, y] (by rw [hsize]; rfl) hx (by omega) (by omega) (by have hb := hbytes; simp only [Nat.zero_add] at hb; omega)
    rw [hr] at hr2
    injection hr2 with e1 e2
    subst e1 e2
    intro g hg'
    simp [Value.ownBlock] at hg'
    subst hg'
    exact ⟨_, heap_alloc_new w.drew _, fun u hu => by
      rw [Array.toList_append] at hu
      rcases List.mem_append.1 hu with hu | hu
      · exact hxy u (by simpa using hu)
      · exact hzero _ u hu⟩
  · obtain ⟨cur', hc', hall⟩ := hown.all g rfl
    rw [hgc] at hc'
    injection hc' with hc'
    injection hc' with hc'
    subst hc'
    by_cases hroom : n + 1 ≤ cap
    · have hfit : n * i.size + [x, y].length ≤ cur.size := by rw [hcs, hsize]; simp; omega
      have hr2 := run_append_room (P := P) w t ty 40 i ht hi g n cap cur hgc a 1 c [x, y] (by rw [hsize]; rfl) hx (by simp [h1, h2]) hroom hfit
      rw [hr] at hr2
      injection hr2 with e1 e2
      subst e1 e2
      intro g' hg'
      simp [Value.ownBlock] at hg'
      subst hg'
      exact ⟨_, setRow_heap w g cur _ 40 _ hgc, fun u hu => by
        simp only [List.mem_append] at hu
        rcases hu with (hu | hu) | hu
        · exact hall u (List.mem_of_mem_take hu)
        · exact hxy u hu
        · exact hall u (List.mem_of_mem_drop hu)⟩
    · have holds : ∀ j u, xs[j]? = some u → w.cell? ((⟨g, 0, none⟩ : Addr).add j) = some u := hown.own.cells (g := g) rfl
      have hr2 := run_append_grow (P := P) w t ty 40 i (.agg #[p, q]) ht hi hz ⟨g, 0, none⟩ n cap xs (by rw [hown.own.1, hsize]) holds a 1 c [x, y] (by rw [hsize]; rfl) hx (by omega) (by omega) (growslice_fits (by omega) hbytes)
      rw [hr] at hr2
      injection hr2 with e1 e2
      subst e1 e2
      intro g' hg'
      simp [Value.ownBlock] at hg'
      subst hg'
      exact ⟨_, heap_alloc_new w.drew _, fun u hu => by
        rw [Array.toList_append, Array.toList_append] at hu
        rcases List.mem_append.1 hu with hu | hu
        · rcases List.mem_append.1 hu with hu | hu
          · have hin : u ∈ cur.toList.take (n * 2) := by rw [htake]; exact hu
            exact hall u (List.mem_of_mem_take hin)
          · exact hxy u (by simpa using hu)
        · exact hzero _ u hu⟩
theorem wpList_append_q {P : Program} (w : World) {ops : Array Oper} {rest : List Oper} {o : Oper} {a : Act} {K : Exit → Act → World → Prop} (hgd : o.guard = none) (s y : Operand) (t : TypeId)
    (ho : o.op = .call { callee := .builtin .append, args := #[s, y], argTypes := #[t, t] })
    (base : Nat) (i : TypeInfo) (p q : Value) (bytes : Nat) (ht : P.underlying t = some (.slice 40)) (hi : P.info? 40 = some i) (hz : i.zero = some (.agg #[p, q])) (hsize : i.size = 2) (hby : i.bytes = bytes)
    (Q : Value → Prop) (hp : Q p) (hq : Q q) (v : Value) (n : Nat) (xs : List Value) (hs : a.eval s = v) (hown : OwnQ w base v n xs Q) (ad : Addr) (c : Nat) (hy : a.eval y = .slice (some ad) 1 c) (x z : Value) (hx : ∀ j u, [x, z][j]? = some u → w.cell? (ad.add j) = some u) (h1 : x.oneCell' = true) (h2 : z.oneCell' = true) (hQx : Q x) (hQz : Q z)
    (h63 : n + 1 ≤ maxLen) (hbytes : (n + 1) * bytes ≤ 140737488355328) (hbase : base ≤ w.heap.size)
    (h : ∀ A' c' w', OwnQ w' base (.slice A' (n + 1 : Nat) c') (n + 1) (xs ++ [x, z]) Q → w.grownBy w' v.ownBlock → wpList P ops K rest (a.put o.dst (.slice A' (n + 1 : Nat) c')) w') :
    wpList P ops K (o :: rest) a w := by
  refine wpList_plain hgd fun K hK => ?_
  obtain ⟨v', w', hrun, h2, h3⟩ := run_append_q (P := P) w base t o.type i p q bytes ht hi hz hsize hby Q hp hq v n xs hown ad c x z hx h1 h2 hQx hQz h63 hbytes hbase
  unfold Oper.wp execOp
  simp only [ho, resolve, invoke, builtin, Sem.run_bind, Sem.run_pure, Result.andThen_ok, List.map_toArray, List.map_cons, List.map_nil, hs, hy, hrun]
  obtain ⟨A', c', rfl⟩ := own_slice h2.own
  exact hK _ _ (h A' c' w' h2 h3)

end Go.Proofs.Ythgaogbpkedjcaa
