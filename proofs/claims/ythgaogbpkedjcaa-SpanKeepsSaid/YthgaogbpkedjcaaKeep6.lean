/-
  What TreapKeeps keeps: an arena in a variable, rows of references and of rows that grow, and what each of them tells.
-/
import Derived.Test.YthgaogbpkedjcaaArV
set_option linter.unusedVariables false
set_option linter.unusedSimpArgs false
namespace Go.Proofs.Ythgaogbpkedjcaa
open Go.RowKit

theorem key20 (q : Int) : ∃ K, (wrap64 (q.tmod 20 + 20)).tmod 20 = K ∧ KeyIn K := by
  have h1 : -20 < q.tmod 20 := Int.lt_tmod_of_pos q (by omega)
  have h2 : q.tmod 20 < 20 := Int.tmod_lt_of_pos q (by omega)
  have e : wrap64 (q.tmod 20 + 20) = q.tmod 20 + 20 := by unfold wrap64; omega
  have h3 : 0 ≤ (q.tmod 20 + 20).tmod 20 := Int.tmod_nonneg _ (by omega)
  have h4 : (q.tmod 20 + 20).tmod 20 < 20 := Int.tmod_lt_of_pos _ (by omega)
  exact ⟨_, rfl, by rw [e]; exact ⟨by omega, by omega⟩⟩

/-- A block in which no signed number lies. -/
def NoI (W : World) (g : Nat) : Prop := ∀ (q : Addr) (z : Int), W.cell? q = some (.int .i64 z) → q.block ≠ g
theorem Bx.noI {W : World} {b : Nat} {u v : Value} (h : Bx W b #[u, v]) (hu : ∀ k z, u ≠ .int k z) (hv : ∀ k z, v ≠ .int k z) : NoI W b := fun q z hq e => by
  obtain ⟨qb, qo, qs⟩ := q
  simp only at e
  subst e
  cases qs with
  | none => rw [h.cell qo] at hq; exact noInt hu hv _ _ _ hq
  | some x =>
    unfold World.cell? at hq
    simp only [Option.isSome_some, if_true] at hq
    split at hq <;> cases hq
theorem Rd.step {W W' : World} {size n g : Nat} {A : Option Addr} {xs : List Value} {z : Int} (h : Rd W size A n xs) (hg : W.grownBy W' (some g)) (hn : NoI W g) (hz : xs[0]? = some (.int .i64 z) ∨ xs = []) : Rd W' size A n xs := by
  rcases hz with hz | rfl
  · obtain ⟨ad, rfl, hc⟩ := h.2 0 _ hz
    refine h.grown hg fun q hq e => ?_
    injection hq with hq
    subst hq
    injection e with e
    have := hn _ _ hc
    rw [addr_block] at this
    exact this e.symm
  · exact ⟨h.1, fun j u hu => by simp at hu⟩
theorem RdR.step {W W' : World} {g : Nat} {v : Value} {l : Row} (h : RdR W v l) (hg : W.grownBy W' (some g)) (hn : NoI W g) : RdR W' v l := by
  obtain ⟨A, c, h1, h2, h3⟩ := h
  refine ⟨A, c, h1, ?_, h3⟩
  cases l with
  | nil => exact Rd.nil _ _ _
  | cons x l => exact Rd.step (z := x.1) h2 hg hn (.inl rfl)
theorem Ar.step {W W' : World} {A B : Option Addr} {n m g : Nat} {ns : List Nd} {fs : List Int} (h : Ar W A n B m ns fs) (hg : W.grownBy W' (some g)) (hn : NoI W g) : Ar W' A n B m ns fs := by
  refine ⟨?_, ?_, h.ok⟩
  · cases ns with
    | nil => exact Rd.step (z := 0) h.nodes hg hn (.inr rfl)
    | cons x ns => exact Rd.step (z := x.k) h.nodes hg hn (.inl rfl)
  · cases fs with
    | nil => exact Rd.step (z := 0) h.free hg hn (.inr rfl)
    | cons x fs => exact Rd.step (z := x) h.free hg hn (.inl rfl)
theorem Av.step {W W' : World} {A B : Option Addr} {n m g : Nat} {ns : List Nd} {fs : List Int} (h : Av W A n B m ns fs) (hg : W.grownBy W' (some g)) (hn : NoI W g) : Av W' A n B m ns fs := ⟨h.ar.step hg hn, h.may⟩

/-- A row of the call's own of one-cell elements, of whose block all cells are of a kind. -/
structure OwnP (W : World) (base : Nat) (e : TypeId) (v : Value) (n : Nat) (xs : List Value) (P : Value → Prop) : Prop where
  own : W.ownsRow base e 1 v n xs
  all : ∀ g, v.ownBlock = some g → ∃ cur : Array Value, W.heap[g]? = some (.cells cur e (0, 0)) ∧ ∀ u ∈ cur.toList, P u
section
variable {W W' : World} {base n : Nat} {e : TypeId} {v : Value} {xs : List Value} {P : Value → Prop}
theorem OwnP.nil (W : World) (base : Nat) (e : TypeId) (P : Value → Prop) : OwnP W base e (.slice none 0 0) 0 [] P := ⟨World.ownsRow_nil _ _ _ _, fun g hg => by cases hg⟩
theorem OwnP.grown {r : Option Nat} (h : OwnP W base e v n xs P) (hg : W.grownBy W' r) (hr : ∀ g, v.ownBlock = some g → r ≠ some g) : OwnP W' base e v n xs P := by
  have hb : ∀ g, v.ownBlock = some g → W'.heap[g]? = W.heap[g]? := fun g hv => hg.block g (by
    obtain ⟨cur, hc, _⟩ := h.all g hv
    exact (Array.getElem?_eq_some_iff.1 hc).1) (fun e => hr g hv e.symm)
  refine ⟨⟨h.own.1, ?_⟩, fun g hv => by rw [hb g hv]; exact h.all g hv⟩
  rcases h.own.2 with h' | ⟨g, cap, cur, rfl, h1, h2, h3⟩
  · exact .inl h'
  · exact .inr ⟨g, cap, cur, rfl, h1, by rw [hb g rfl]; exact h2, h3⟩
theorem OwnP.to (h : OwnP W base e v n xs P) (hx : Ext W W') : OwnP W' base e v n xs P :=
  h.grown (r := none) ⟨hx.os, hx.tape, hx.output, hx.size, fun k hk _ => hx.block k hk⟩ (fun g _ e => by cases e)
theorem OwnP.ge (h : OwnP W base e v n xs P) {g : Nat} (hv : v.ownBlock = some g) : base ≤ g := (h.own.lt g hv).1
theorem OwnP.noI (h : OwnP W base e v n xs P) (hP : ∀ z, ¬ P (.int .i64 z)) {g : Nat} (hv : v.ownBlock = some g) : NoI W g := fun q z hq e => by
  obtain ⟨cur, hc, hall⟩ := h.all g hv
  obtain ⟨qb, qo, qs⟩ := q
  simp only at e
  subst e
  cases qs with
  | none =>
    simp [World.cell?, hc] at hq
    exact hP z (hall _ (by rw [Array.mem_toList_iff]; exact Array.mem_of_getElem? hq))
  | some x =>
    unfold World.cell? at hq
    simp only [Option.isSome_some, if_true] at hq
    split at hq <;> cases hq
theorem OwnP.ne {e' : TypeId} {v' : Value} {n' : Nat} {xs' : List Value} {P' : Value → Prop} {base' : Nat} (h : OwnP W base e v n xs P) (h' : OwnP W base' e' v' n' xs' P') (he : e ≠ e') {g g' : Nat} (hv : v.ownBlock = some g) (hv' : v'.ownBlock = some g') : g ≠ g' := fun e0 => by
  subst e0
  obtain ⟨cur, hc, _⟩ := h.all g hv
  obtain ⟨cur', hc', _⟩ := h'.all g hv'
  rw [hc] at hc'
  injection hc' with hc'
  injection hc' with _ h2
  exact he h2
end
theorem run_append_p {P : Program} (w : World) (base : Nat) (t ty e : TypeId) (i : TypeInfo) (z : Value) (bytes : Nat) (ht : P.underlying t = some (.slice e)) (hi : P.info? e = some i) (hz : i.zero = some z) (hsize : i.size = 1) (hby : i.bytes = bytes) (hzs : z.cells = #[z])
    (Q : Value → Prop) (hQz : Q z) (v : Value) (n : Nat) (xs : List Value) (hown : OwnP w base e v n xs Q) (a : Addr) (c : Nat) (x : Value) (hx : w.cell? a = some x) (h1 : x.oneCell' = true) (hQx : Q x)
    (h63 : n + 1 ≤ maxLen) (hbytes : (n + 1) * bytes ≤ 140737488355328) (hbase : base ≤ w.heap.size) :
    ∃ v' w', (Builtin.append_ #[t, t] ty #[v, .slice (some a) 1 c]).run P w = .ok v' w' ∧ OwnP w' base e v' (n + 1) (xs ++ [x]) Q ∧ w.grownBy w' v.ownBlock := by
  have hnews : ∀ j u, [x][j]? = some u → w.cell? (a.add j) = some u := fun j u hu => by
    rcases j with _ | j
    · simp at hu; subst hu
      have : a.add 0 = a := by unfold Addr.add; simp
      rw [this]; exact hx
    · simp at hu
  obtain ⟨v', w', hr, ho, hg, _, _⟩ := run_append_own_at (P := P) w base t ty e i z 1 bytes ht hi hz hsize hby (by rw [hzs]; rfl) (by omega) v n xs hown.own a 1 c [x] (by simp) hnews (by simp [h1]) h63 hbytes hbase
  refine ⟨v', w', hr, ⟨ho, ?_⟩, hg⟩
  have hzero : ∀ k, ∀ u ∈ (Builtin.zeroCells z.cells k).toList, Q u := fun k u hu => by
    rw [hzs] at hu
    simp [Builtin.zeroCells] at hu
    obtain ⟨y, _, rfl⟩ := hu
    simpa [Nat.mod_one] using hQz
  subst hby
  have hsmall : n + 1 ≤ 9223372036854775807 := by simp only [maxLen] at h63; omega
  rcases hown.own.2 with ⟨rfl, rfl⟩ | ⟨g, cap, cur, rfl, hbg, hgc, hnc, hcm, hcs, htake⟩
  · have hr2 := run_append_nil (P := P) w t ty e i z ht hi hz a 1 c [x] (by rw [hsize]; rfl) hnews (by omega) (by omega) (by have hb := hbytes; simp only [Nat.zero_add] at hb; omega)
    rw [hr] at hr2
    injection hr2 with e1 e2
    subst e1 e2
    intro g hg'
    simp [Value.ownBlock] at hg'
    subst hg'
    exact ⟨_, heap_alloc_new w.drew _, fun u hu => by
      rw [Array.toList_append] at hu
      rcases List.mem_append.1 hu with hu | hu
      · simp at hu; subst hu; exact hQx
      · exact hzero _ u hu⟩
  · obtain ⟨cur', hc', hall⟩ := hown.all g rfl
    rw [hgc] at hc'
    injection hc' with hc'
    injection hc' with hc'
    subst hc'
    by_cases hroom : n + 1 ≤ cap
    · have hfit : n * i.size + [x].length ≤ cur.size := by rw [hcs, hsize]; simp; omega
      have hr2 := run_append_room (P := P) w t ty e i ht hi g n cap cur hgc a 1 c [x] (by rw [hsize]; rfl) hnews (by simp [h1]) hroom hfit
      rw [hr] at hr2
      injection hr2 with e1 e2
      subst e1 e2
      intro g' hg'
      simp [Value.ownBlock] at hg'
      subst hg'
      exact ⟨_, setRow_heap w g cur _ e _ hgc, fun u hu => by
        simp only [List.mem_append] at hu
        rcases hu with (hu | hu) | hu
        · exact hall u (List.mem_of_mem_take hu)
        · simp at hu; subst hu; exact hQx
        · exact hall u (List.mem_of_mem_drop hu)⟩
    · have holds : ∀ j u, xs[j]? = some u → w.cell? ((⟨g, 0, none⟩ : Addr).add j) = some u := hown.own.cells (g := g) rfl
      have hr2 := run_append_grow (P := P) w t ty e i z ht hi hz ⟨g, 0, none⟩ n cap xs (by rw [hown.own.1, hsize]) holds a 1 c [x] (by rw [hsize]; rfl) hnews (by omega) (by omega) (growslice_fits (by omega) hbytes)
      rw [hr] at hr2
      injection hr2 with e1 e2
      subst e1 e2
      intro g' hg'
      simp [Value.ownBlock] at hg'
      subst hg'
      exact ⟨_, heap_alloc_new w.drew _, fun u hu => by
        rw [Array.toList_append, Array.toList_append] at hu
        rcases List.mem_append.1 hu with hu | hu
        · rcases List.mem_append.1 hu with hu | hu
          · have hin : u ∈ cur.toList.take (n * 1) := by rw [htake]; exact hu
            exact hall u (List.mem_of_mem_take hin)
          · simp at hu; subst hu; exact hQx
        · exact hzero _ u hu⟩
theorem wpList_append_p {P : Program} (w : World) {ops : Array Oper} {rest : List Oper} {o : Oper} {a : Act} {K : Exit → Act → World → Prop} (hgd : o.guard = none) (s y : Operand) (t : TypeId)
    (ho : o.op = .call { callee := .builtin .append, args := #[s, y], argTypes := #[t, t] })
    (base : Nat) (e : TypeId) (i : TypeInfo) (z : Value) (bytes : Nat) (ht : P.underlying t = some (.slice e)) (hi : P.info? e = some i) (hz : i.zero = some z) (hsize : i.size = 1) (hby : i.bytes = bytes) (hzs : z.cells = #[z])
    (Q : Value → Prop) (hQz : Q z) (v : Value) (n : Nat) (xs : List Value) (hs : a.eval s = v) (hown : OwnP w base e v n xs Q) (ad : Addr) (c : Nat) (hy : a.eval y = .slice (some ad) 1 c) (x : Value) (hx : w.cell? ad = some x) (h1 : x.oneCell' = true) (hQx : Q x)
    (h63 : n + 1 ≤ maxLen) (hbytes : (n + 1) * bytes ≤ 140737488355328) (hbase : base ≤ w.heap.size)
    (h : ∀ A' c' w', OwnP w' base e (.slice A' (n + 1 : Nat) c') (n + 1) (xs ++ [x]) Q → w.grownBy w' v.ownBlock → wpList P ops K rest (a.put o.dst (.slice A' (n + 1 : Nat) c')) w') :
    wpList P ops K (o :: rest) a w := by
  refine wpList_plain hgd fun K hK => ?_
  obtain ⟨v', w', hrun, h2, h3⟩ := run_append_p (P := P) w base t o.type e i z bytes ht hi hz hsize hby hzs Q hQz v n xs hown ad c x hx h1 hQx h63 hbytes hbase
  unfold Oper.wp execOp
  simp only [ho, resolve, invoke, builtin, Sem.run_bind, Sem.run_pure, Result.andThen_ok, List.map_toArray, List.map_cons, List.map_nil, hs, hy, hrun]
  obtain ⟨A', c', rfl⟩ := own_slice h2.own
  exact hK _ _ (h A' c' w' h2 h3)

theorem wp_store_arx {o : Oper} {a : Act} {w : World} {K : Act → World → Prop} {Q : Exit → Act → World → Prop} (x y : Operand) (ho : o.op = .store 25 x y)
    (b : Nat) (hx : a.eval x = .pointer (some ⟨b, 0, none⟩)) (u v : Value) (hy : a.eval y = .agg #[u, v]) (hu : u.oneCell' = true) (hv : v.oneCell' = true) (cs : Array Value) (hB : Bx w b cs) (hc : cs.size = 2)
    (h : ∀ W, Bx W b #[u, v] → Only b w W → K (a.put o.dst undef) W) : Oper.wp Try.prog o a w K Q := by
  have ht : w.there b 0 (#[u, v] : Array Value).size := fun j hj => by
    rw [Nat.zero_add]
    have hj2 : j < 2 := hj
    refine ⟨?_, hB.free j⟩
    rw [hB.cell j, Array.getElem?_eq_getElem (by omega)]; rfl
  unfold Oper.wp execOp
  simp only [ho, hx, hy, Sem.run_bind, run_storeAt_mid (P := Try.prog) w b 0 25 #[u, v] ht (by kernel_rfl) (by simp [hu, hv]), Sem.run_pure, Result.andThen_ok]
  exact h _ (hB.stored (by rw [hc]; rfl)) (setCells_only b _ 0 w w (Only.refl b w))
theorem ref_info : (Try.prog.info? 27).map (fun i => (i.zero, i.size, i.bytes)) = some (some (.int .u64 0), 1, 8) := by kernel_rfl
theorem items_info : (Try.prog.info? 31).map (fun i => (i.zero, i.size, i.bytes)) = some (some (.slice none 0 0), 1, 24) := by kernel_rfl

def isU (u : Value) : Prop := ∃ z, u = .int .u64 z
def isS (u : Value) : Prop := ∃ A n c, u = .slice A n c
theorem isU_no (z : Int) : ¬ isU (.int .i64 z) := by rintro ⟨y, h⟩; cases h
theorem isS_no (z : Int) : ¬ isS (.int .i64 z) := by rintro ⟨A, n, c, h⟩; cases h

/-- Roots with their rows: references, slices, rows. -/
abbrev Rts := List (Int × Value × Row)
/-- All that TreapKeeps goes on with. -/
structure KI (W : World) (ba base : Nat) (A : Option Addr) (n c : Nat) (B : Option Addr) (m d : Nat) (ns : List Nd) (fs : List Int) (zr : Int) (v8 : Value) (row : Row) (v7 v6 : Value) (rs : Rts) : Prop where
  box : Bx W ba #[.slice A n c, .slice B m d]
  av : Av W A n B m ns fs
  mp : MapV ns zr row
  rd : RdR W v8 row
  roots : OwnP W base 27 v7 rs.length (Us (rs.map (·.1))) isU
  rows : OwnP W base 31 v6 rs.length (rs.map (·.2.1)) isS
  all : ∀ x ∈ rs, RdR W x.2.1 x.2.2 ∧ MapV ns x.1 x.2.2
  lt : ba < base
section
variable {W W' : World} {ba base n c m d : Nat} {A B : Option Addr} {ns : List Nd} {fs : List Int} {zr : Int} {v8 v7 v6 : Value} {row : Row} {rs : Rts}
theorem KI.to (h : KI W ba base A n c B m d ns fs zr v8 row v7 v6 rs) (hx : Ext W W') : KI W' ba base A n c B m d ns fs zr v8 row v7 v6 rs :=
  ⟨h.box.to hx, h.av.to hx, h.mp, h.rd.to hx, h.roots.to hx, h.rows.to hx, fun x hm => ⟨(h.all x hm).1.to hx, (h.all x hm).2⟩, h.lt⟩
/-- A new map goes into the variable. -/
theorem KI.move (h : KI W ba base A n c B m d ns fs zr v8 row v7 v6 rs) {A' B' : Option Addr} {n' c' m' d' q : Nat} {ns' : List Nd} {fs' : List Int} {zr' : Int} {v8' : Value} {row' : Row} (hav : Av W A' n' B' m' ns' fs') (hG : Gr ns fs ns' fs' q) (hM : MapV ns' zr' row') (hr : RdR W v8' row')
    (hB : Bx W' ba #[.slice A' n' c', .slice B' m' d']) (ho : Only ba W W') : KI W' ba base A' n' c' B' m' d' ns' fs' zr' v8' row' v7 v6 rs := by
  have hn := h.box.noI (by simp) (by simp)
  have hlt := h.lt
  exact ⟨hB, hav.step ho hn, hM, hr.step ho hn, h.roots.grown ho (fun g hg e => by have := h.roots.ge hg; injection e with e; omega), h.rows.grown ho (fun g hg e => by have := h.rows.ge hg; injection e with e; omega),
    fun x hm => ⟨(h.all x hm).1.step ho hn, (h.all x hm).2.grow hG⟩, h.lt⟩
/-- What an append to the roots leaves of the rest. -/
structure KR (W : World) (ba base : Nat) (A : Option Addr) (n c : Nat) (B : Option Addr) (m d : Nat) (ns : List Nd) (fs : List Int) (zr : Int) (v8 : Value) (row : Row) (v7 v6 : Value) (rs : Rts) : Prop where
  box : Bx W ba #[.slice A n c, .slice B m d]
  av : Av W A n B m ns fs
  mp : MapV ns zr row
  rd : RdR W v8 row
  roots : OwnP W base 27 v7 (rs.length + 1) (Us (rs.map (·.1)) ++ [.int .u64 zr]) isU
  rows : OwnP W base 31 v6 rs.length (rs.map (·.2.1)) isS
  all : ∀ x ∈ rs, RdR W x.2.1 x.2.2 ∧ MapV ns x.1 x.2.2
  lt : ba < base
theorem KR.to (h : KR W ba base A n c B m d ns fs zr v8 row v7 v6 rs) (hx : Ext W W') : KR W' ba base A n c B m d ns fs zr v8 row v7 v6 rs :=
  ⟨h.box.to hx, h.av.to hx, h.mp, h.rd.to hx, h.roots.to hx, h.rows.to hx, fun x hm => ⟨(h.all x hm).1.to hx, (h.all x hm).2⟩, h.lt⟩
theorem grown_none {W W' : World} (h : W.grownBy W' none) : Ext W W' := ⟨h.os, h.tape, h.output, h.size, fun k hk => h.block k hk (by simp)⟩
theorem KI.root (h : KI W ba base A n c B m d ns fs zr v8 row v7 v6 rs) {v7' : Value} (ho : OwnP W' base 27 v7' (rs.length + 1) (Us (rs.map (·.1)) ++ [.int .u64 zr]) isU) (hg : W.grownBy W' v7.ownBlock) : KR W' ba base A n c B m d ns fs zr v8 row v7' v6 rs := by
  cases hv : v7.ownBlock with
  | none =>
    rw [hv] at hg
    have h2 := h.to (grown_none hg)
    exact ⟨h2.box, h2.av, h2.mp, h2.rd, ho, h2.rows, h2.all, h2.lt⟩
  | some g =>
    rw [hv] at hg
    have hn := h.roots.noI isU_no hv
    have hge := h.roots.ge hv
    have hlt := h.lt
    exact ⟨h.box.grown hg (fun e => by injection e with e; omega), h.av.step hg hn, h.mp, h.rd.step hg hn, ho, h.rows.grown hg (fun g' hg' e => by injection e with e; exact h.roots.ne h.rows (by decide) hv hg' e), fun x hm => ⟨(h.all x hm).1.step hg hn, (h.all x hm).2⟩, h.lt⟩
theorem KR.push (h : KR W ba base A n c B m d ns fs zr v8 row v7 v6 rs) {v6' : Value} (ho : OwnP W' base 31 v6' (rs.length + 1) (rs.map (·.2.1) ++ [v8]) isS) (hg : W.grownBy W' v6.ownBlock) : KI W' ba base A n c B m d ns fs zr v8 row v7 v6' (rs ++ [(zr, v8, row)]) := by
  have e1 : (rs ++ [(zr, v8, row)]).length = rs.length + 1 := by simp
  have e2 : Us ((rs ++ [(zr, v8, row)]).map (·.1)) = Us (rs.map (·.1)) ++ [.int .u64 zr] := by simp [Us]
  have e3 : (rs ++ [(zr, v8, row)]).map (·.2.1) = rs.map (·.2.1) ++ [v8] := by simp
  have key : Bx W' ba #[.slice A n c, .slice B m d] ∧ Av W' A n B m ns fs ∧ RdR W' v8 row ∧ OwnP W' base 27 v7 (rs.length + 1) (Us (rs.map (·.1)) ++ [.int .u64 zr]) isU ∧ ∀ x ∈ rs, RdR W' x.2.1 x.2.2 := by
    cases hv : v6.ownBlock with
    | none =>
      rw [hv] at hg
      have h2 := h.to (grown_none hg)
      exact ⟨h2.box, h2.av, h2.rd, h2.roots, fun x hm => (h2.all x hm).1⟩
    | some g =>
      rw [hv] at hg
      have hn := h.rows.noI isS_no hv
      have hge := h.rows.ge hv
      have hlt := h.lt
      exact ⟨h.box.grown hg (fun e => by injection e with e; omega), h.av.step hg hn, h.rd.step hg hn, h.roots.grown hg (fun g' hg' e => by injection e with e; exact h.roots.ne h.rows (by decide) hg' hv e.symm), fun x hm => (h.all x hm).1.step hg hn⟩
  obtain ⟨k1, k2, k3, k4, k5⟩ := key
  refine ⟨k1, k2, h.mp, k3, by rw [e1, e2]; exact k4, by rw [e1, e3]; exact ho, fun x hm => ?_, h.lt⟩
  rcases List.mem_append.1 hm with hm | hm
  · exact ⟨k5 x hm, (h.all x hm).2⟩
  · simp at hm; subst hm; exact ⟨k3, h.mp⟩
end

end Go.Proofs.Ythgaogbpkedjcaa
