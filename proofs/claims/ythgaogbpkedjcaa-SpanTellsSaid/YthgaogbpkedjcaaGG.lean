/-
  Texts in one: QTail Stores TwoHeld.
-/
import Derived.Test.YthgaogbpkedjcaaGB
import Derived.StillTail
import Derived.Laws.IdiomCopy
import Derived.OrdersHeld

/-
  A region that draws its order: a head that is quiet in a class of worlds, walked once, and behind it a tail in one forced order, walked in whatever world of the class.
-/
set_option linter.unusedVariables false
set_option linter.unusedSimpArgs false
namespace Go.Proofs.Ythgaogbpkedjcaa
open Go.RowKit

section
variable {P : Program} {ops : Array Oper} {md : Region.Mode} {C : World → Prop}

/-- Of the first n operations some come up, in whatever order; then L. -/
def HeadQ (P : Program) (md : Region.Mode) (ops : Array Oper) (C : World → Prop) (n : Nat) (L : Array Bool → Act → Prop) : Nat → Array Bool → Act → Prop
  | 0, li, a => L li a
  | f + 1, li, a => Region.ready md ops li ≠ [] ∧ ∀ i ∈ Region.ready md ops li, i < n ∧ qOp P ops C i (HeadQ P md ops C n L f (li.setIfInBounds i true)) a

theorem HeadQ.any {n g : Nat} {L : Array Bool → Act → Prop} {Q : Exit → Act → World → Prop} (hL : ∀ li a w, C w → L li a → wpAny P md ops Q g li a w) (f : Nat) :
    ∀ (li : Array Bool) (a : Act) (w : World), C w → HeadQ P md ops C n L f li a → wpAny P md ops Q (f + g) li a w := by
  induction f with
  | zero =>
    intro li a w hw h
    rw [Nat.zero_add]
    exact hL li a w hw h
  | succ f ih =>
    intro li a w hw h
    rw [Nat.succ_add]
    exact ⟨fun e => absurd e h.1, fun i hi => wpOp_of_qOp hw (fun a' w' hw' h' => ih _ a' w' hw' h') (h.2 i hi).2⟩

theorem HeadQ.first {n i : Nat} {o : Oper} {v : Value} {L : Array Bool → Act → Prop} (ho : ops[i]? = some o) (hsel : ∀ (j : Nat) (x : Oper) cs b, ops[j]? = some x → x.op ≠ .select cs b)
    (hw : ∀ (li : Array Bool), HeadInv md ops n li → ∀ i, i < n → li.getD i true = false → ∀ t, n ≤ t → t ∉ Region.ready md ops li) (hin : i < n) (hL : ∀ li a, L li a → ∀ j ∈ Region.ready md ops li, n ≤ j) (f : Nat) :
    ∀ (li : Array Bool) (a : Act), HeadInv md ops n li → (∀ j x, ops[j]? = some x → j ≠ i → li.getD j true = false → (∀ e ∈ x.after, Region.binds md e = true → e.on ≠ i) → o.apart ops x = true) →
      i ∈ Region.ready md ops li → YieldsIn P ops C o v a → HeadQ P md ops C n L f (li.setIfInBounds i true) (a.put o.dst v) → HeadQ P md ops C n L (f + 1) li a := by
  -- what is ready stands in the head, as long as i has not come up
  have low : ∀ (li : Array Bool), HeadInv md ops n li → i ∈ Region.ready md ops li → ∀ j ∈ Region.ready md ops li, j < n := fun li inv hi j hj => by
    by_cases h : j < n
    · exact h
    · exact absurd hj (hw li inv i hin (mem_ready.1 hi).1 j (by omega))
  induction f with
  | zero =>
    intro li a inv hap hi hy h
    refine ⟨List.ne_nil_of_mem hi, fun j hj => ⟨low li inv hi j hj, ?_⟩⟩
    by_cases e : j = i
    · subst e
      exact hy.qOp ho h
    · have := hL _ _ h j (ready_mono hj e)
      have := low li inv hi j hj
      omega
  | succ f ih =>
    intro li a inv hap hi hy h
    refine ⟨List.ne_nil_of_mem hi, fun j hj => ⟨low li inv hi j hj, ?_⟩⟩
    by_cases e : j = i
    · subst e
      exact hy.qOp ho h
    · obtain ⟨hju, x, hx, hall⟩ := mem_ready.1 hj
      have hno : ∀ d ∈ x.after, Region.binds md d = true → d.on ≠ i := fun d hd hb he => by
        have h1 := hall d hd hb
        rw [he, getD_both (mem_ready.1 hi).1] at h1
        cases h1
      have hq := qOp_put hx (hap j x hx e hju hno) (fun cs b => hsel i o cs b ho) (fun cs b => hsel j x cs b hx) hy (h.2 j (ready_mono hj e)).2
      refine qOp_mono (fun a' ha => ih _ a' (inv.set hj (low li inv hi j hj)) (fun k y hy' hk hu hno' => hap k y hy' hk ?_ hno') (ready_mono hi (Ne.symm e)) ha.1 ?_) hq
      · by_cases ejk : j = k
        · subst ejk; exact hju
        · rwa [getD_set_ne true ejk] at hu
      · rw [Array.setIfInBounds_comm _ _ e]
        exact ha.2

theorem HeadQ.lex {n g : Nat} {Q : Act → Prop} (hsel : Region.noSelect ops = true) (hs : Region.sinkB md ops n = true) (hc : Region.chainB md ops n = true) (hn : n < ops.size) (l : List Oper) :
    ∀ (k : Nat) (li : Array Bool) (a : Act), (∀ j, j < l.length → l[j]? = ops[k + j]?) → k + l.length = n → HeadInv md ops n li → Region.lexHead md ops g l.length k li = true → wpQuiet P ops C Q l a →
      HeadQ P md ops C n (fun li' a' => Region.seqB md ops g n li' = true ∧ Q a') l.length li a := by
  induction l with
  | nil =>
    intro k li a _ hk _ hB h
    obtain rfl : k = n := by simpa using hk
    exact ⟨by simpa [Region.lexHead] using hB, h⟩
  | cons o l ih =>
    intro k li a hl hk inv hB h
    have h0 : ops[k]? = some o := by simpa using (hl 0 (by simp)).symm
    simp only [List.length_cons] at hk
    simp only [List.length_cons, Region.lexHead, Bool.and_eq_true] at hB
    have hr : k ∈ Region.ready md ops li := by simpa using hB.1.1
    have hq : qOp P ops C k (wpQuiet P ops C Q l) a := by unfold qOp; simp only [h0]; exact h
    obtain ⟨v, hy, hK⟩ := yieldsIn_of_qOp h0 hq
    refine HeadQ.first h0 (Region.noSelect_spec hsel) (fun li' inv' i hi hu => tail_waits hs hc hn inv' _ i rfl hi hu) (by omega) (fun li' a' hL => seqB_ready hL.1) l.length li a inv (Region.free_spec h0 hB.1.2) hr hy ?_
    exact ih (k + 1) _ _ (fun j hj => by have := hl (j + 1) (by simp; omega); simpa [Nat.add_assoc, Nat.add_comm 1 j] using this) (by omega) (inv.set hr (by omega)) hB.2 hK

theorem wp_region_quiet_tail {id : Nat} {Q : Exit → Act → World → Prop} {a : Act} {w : World} {l : List Oper} (n : Nat) (hm : P.follows .mixedOrders = true) (hB : Region.lexTailB .any l.toArray n = true) (hC : C { w with drawn := w.drawn + 1 })
    (h : wpQuiet P l.toArray C (fun a' => ∀ w', C w' → wpList P l.toArray Q (l.drop n) a' w') (l.take n) a) : (Code.region id l.toArray true).wp P Q a w := by
  simp only [Region.lexTailB, Bool.and_eq_true, decide_eq_true_eq] at hB
  obtain ⟨⟨⟨⟨hsel, hn⟩, hs⟩, hc⟩, hlex⟩ := hB
  have hn' : n < l.length := by simpa using hn
  have htl : (l.take n).length = n := by simp; omega
  have hdl : (l.drop n).length = l.toArray.size - n := by simp
  have H := HeadQ.lex (md := .any) (g := l.toArray.size - n) hsel hs hc hn (l.take n) 0 (Array.replicate l.toArray.size false) a (fun j hj => by
    have hj' : j < n := by rw [htl] at hj; exact hj
    simp [hj']) (by simpa using htl) ⟨by simp, fun j x _ hl => (by rw [getD_replicate_false] at hl; cases hl), fun t _ ht => getD_in (by simpa using ht) (getD_replicate_false _ _)⟩ (by rw [htl]; exact hlex) h
  refine wp_region_any hm ?_
  have := HeadQ.any (Q := Q) (g := l.toArray.size - n) (fun li a' w' hw hL => by
    have := wpAny_of_seq (md := .any) (Q' := Q) (l.drop n) n li a' w' (fun j => by simp [List.getElem?_drop]) (by rw [hdl]; exact hL.1) (hL.2 w' hw)
    rwa [hdl] at this) _ _ _ _ hC H
  rw [htl, show n + (l.toArray.size - n) = l.toArray.size by omega] at this
  exact this

/-- .. in whatever later world. -/
theorem wp_region_later_tail {id : Nat} {Q : Exit → Act → World → Prop} {a : Act} {w : World} {l : List Oper} (n : Nat) (w0 : World) (h0 : Ext w0 w) (hm : P.follows .mixedOrders = true) (hB : Region.lexTailB .any l.toArray n = true)
    (h : wpQuiet P l.toArray (fun w' => ∃ q : Later w0, w' = q.w) (fun a' => ∀ w', (∃ q : Later w0, w' = q.w) → wpList P l.toArray Q (l.drop n) a' w') (l.take n) a) : (Code.region id l.toArray true).wp P Q a w :=
  wp_region_quiet_tail (C := fun w' => ∃ q : Later w0, w' = q.w) n hm hB ⟨⟨w.drew, h0.drew⟩, rfl⟩ h

/-! ### A pivot: quiet operations, one that may do anything, and again quiet ones, in another class. -/
def Region.afterB (md : Region.Mode) (ops : Array Oper) (n : Nat) : Bool :=
  (List.range ops.size).all fun t => decide (t ≤ n) || (List.range t).any fun j => decide (n ≤ j) && Region.waitsFor md ops t j
def Region.pivotHead (md : Region.Mode) (ops : Array Oper) (n : Nat) : Nat → Nat → Array Bool → Bool
  | 0, k, li => decide (Region.ready md ops li = [k]) && Region.lexFrom md ops (ops.size - n - 1) (k + 1) (li.setIfInBounds k true)
  | f + 1, k, li => (Region.ready md ops li).contains k && Region.free md ops li k && Region.pivotHead md ops n f (k + 1) (li.setIfInBounds k true)
def Region.pivotB (md : Region.Mode) (ops : Array Oper) (n : Nat) : Bool :=
  Region.noSelect ops && decide (n < ops.size) && Region.sinkB md ops n && Region.afterB md ops n && Region.pivotHead md ops n n 0 (Array.replicate ops.size false)

theorem pivot_waits {n : Nat} {li : Array Bool} (hs : Region.sinkB md ops n = true) (ha : Region.afterB md ops n = true) (hn : n < ops.size) (inv : HeadInv md ops n li) :
    ∀ (d i : Nat), n - i = d → i < n → li.getD i true = false → ∀ t, n ≤ t → t ∉ Region.ready md ops li := by
  intro d
  induction d using Nat.strongRecOn with
  | _ d ih =>
    intro i hd hi hu t ht hr
    obtain ⟨_, ot, hot, hall⟩ := mem_ready.1 hr
    have htl : t < ops.size := (Array.getElem?_eq_some_iff.1 hot).1
    by_cases e : t = n
    · subst e
      obtain ⟨j, hj, hj2⟩ := List.any_eq_true.1 (List.all_eq_true.1 hs i (List.mem_range.2 hi))
      simp only [Bool.and_eq_true, decide_eq_true_eq] at hj2
      obtain ⟨oj, hoj, d', hd', hb, hon⟩ := Region.waitsFor_spec hj2.2
      have hjle := List.mem_range.1 hj
      by_cases hjt : j = t
      · subst hjt
        obtain rfl : oj = ot := Option.some.inj (hoj.symm.trans hot)
        have := hall d' hd' hb
        rw [hon, getD_both hu] at this
        cases this
      · cases hl : li.getD j false with
        | true =>
          have := inv.closed j oj hoj hl d' hd' hb
          rw [hon, getD_both hu] at this
          cases this
        | false => exact ih (t - j) (by omega) j rfl (by omega) (getD_in (by rw [inv.size]; omega) hl) t (Nat.le_refl _) hr
    · have h1 := List.all_eq_true.1 ha t (List.mem_range.2 htl)
      simp only [Bool.or_eq_true, decide_eq_true_eq] at h1
      rcases h1 with h1 | h1
      · omega
      · obtain ⟨j, hj, hj2⟩ := List.any_eq_true.1 h1
        simp only [Bool.and_eq_true, decide_eq_true_eq] at hj2
        have hjt := List.mem_range.1 hj
        obtain ⟨oj, hoj, d', hd', hb, hon⟩ := Region.waitsFor_spec hj2.2
        obtain rfl : oj = ot := Option.some.inj (hoj.symm.trans hot)
        have := hall d' hd' hb
        rw [hon, getD_both (inv.tail j hj2.1 (by omega))] at this
        cases this

theorem HeadQ.pivot {n : Nat} {Q : Act → Prop} (hsel : Region.noSelect ops = true) (hs : Region.sinkB md ops n = true) (ha : Region.afterB md ops n = true) (hn : n < ops.size) (l : List Oper) :
    ∀ (k : Nat) (li : Array Bool) (a : Act), (∀ j, j < l.length → l[j]? = ops[k + j]?) → k + l.length = n → HeadInv md ops n li → Region.pivotHead md ops n l.length k li = true → wpQuiet P ops C Q l a →
      HeadQ P md ops C n (fun li' a' => (Region.ready md ops li' = [n] ∧ Region.lexFrom md ops (ops.size - n - 1) (n + 1) (li'.setIfInBounds n true) = true) ∧ Q a') l.length li a := by
  induction l with
  | nil =>
    intro k li a _ hk _ hB h
    obtain rfl : k = n := by simpa using hk
    simp only [List.length_nil, Region.pivotHead, Bool.and_eq_true, decide_eq_true_eq] at hB
    exact ⟨hB, h⟩
  | cons o l ih =>
    intro k li a hl hk inv hB h
    have h0 : ops[k]? = some o := by simpa using (hl 0 (by simp)).symm
    simp only [List.length_cons] at hk
    simp only [List.length_cons, Region.pivotHead, Bool.and_eq_true] at hB
    have hr : k ∈ Region.ready md ops li := by simpa using hB.1.1
    have hq : qOp P ops C k (wpQuiet P ops C Q l) a := by unfold qOp; simp only [h0]; exact h
    obtain ⟨v, hy, hK⟩ := yieldsIn_of_qOp h0 hq
    refine HeadQ.first h0 (Region.noSelect_spec hsel) (fun li' inv' i hi hu => pivot_waits hs ha hn inv' _ i rfl hi hu) (by omega) (fun li' a' hL j hj => by rw [hL.1.1] at hj; simp at hj; omega) l.length li a inv (Region.free_spec h0 hB.1.2) hr hy ?_
    exact ih (k + 1) _ _ (fun j hj => by have := hl (j + 1) (by simp; omega); simpa [Nat.add_assoc, Nat.add_comm 1 j] using this) (by omega) (inv.set hr (by omega)) hB.2 hK

/-- What is asked behind the pivot: the rest is quiet in some class of worlds. -/
def Piv (P : Program) (l : List Oper) (n : Nat) (Q : Exit → Act → World → Prop) (a : Act) (w : World) : Prop :=
  ∃ C2 : World → Prop, C2 w ∧ wpQuiet P l.toArray C2 (fun a' => ∀ w', C2 w' → Q .normal a' w') (l.drop (n + 1)) a

theorem wp_region_pivot {id : Nat} {Q : Exit → Act → World → Prop} {a : Act} {w : World} {l : List Oper} (n : Nat) (o : Oper) (ho : l[n]? = some o) (hm : P.follows .mixedOrders = true) (hB : Region.pivotB .any l.toArray n = true) (hC : C { w with drawn := w.drawn + 1 })
    (h : wpQuiet P l.toArray C (fun a' => ∀ w', C w' → ∀ K : Act → World → Prop, (∀ a'' w'', Piv P l n Q a'' w'' → K a'' w'') → if Region.wanted o (yielded l.toArray a'.tmps) = true then Oper.wp P o a' w' K Q else K (a'.put o.dst undef) w') (l.take n) a) : (Code.region id l.toArray true).wp P Q a w := by
  simp only [Region.pivotB, Bool.and_eq_true, decide_eq_true_eq] at hB
  obtain ⟨⟨⟨⟨hsel, hn⟩, hs⟩, ha⟩, hlex⟩ := hB
  have hn' : n < l.length := by simpa using hn
  have htl : (l.take n).length = n := by simp; omega
  have hdl : (l.drop (n + 1)).length = l.toArray.size - n - 1 := by simp; omega
  have H := HeadQ.pivot (md := .any) hsel hs ha hn (l.take n) 0 (Array.replicate l.toArray.size false) a (fun j hj => by
    have hj' : j < n := by rw [htl] at hj; exact hj
    simp [hj']) (by simpa using htl) ⟨by simp, fun j x _ hl => (by rw [getD_replicate_false] at hl; cases hl), fun t _ ht => getD_in (by simpa using ht) (getD_replicate_false _ _)⟩ (by rw [htl]; exact hlex) h
  refine wp_region_any hm ?_
  have := HeadQ.any (Q := Q) (g := l.toArray.size - n) (fun li a' w' hw hL => by
    obtain ⟨⟨hr, hx⟩, hq⟩ := hL
    obtain ⟨g, hg⟩ : ∃ g, l.toArray.size - n = g + 1 := ⟨l.toArray.size - n - 1, by omega⟩
    have hg' : g = l.toArray.size - n - 1 := by omega
    rw [hg]
    refine ⟨fun e => (by rw [hr] at e; cases e), fun i hi => ?_⟩
    rw [hr] at hi
    obtain rfl : i = n := by simpa using hi
    have h0 : l.toArray[i]? = some o := by simpa using ho
    have hk := hq w' hw (wpAny P .any l.toArray Q g (li.setIfInBounds i true)) (fun a'' w'' hp => by
      obtain ⟨C2, hc2, hq2⟩ := hp
      have h3 := wpAnyQ_lex (C := C2) (md := .any) hsel (l.drop (i + 1)) (i + 1) (li.setIfInBounds i true) a'' (fun j => by simp [List.getElem?_drop]) (by rw [hdl]; exact hx) hq2
      rw [hdl, ← hg'] at h3
      exact wpAny_of_quiet (fun _ w3 h4 h5 => h5 w3 h4) _ _ _ _ hc2 h3)
    unfold wpOp
    simp only [h0]
    by_cases hwd : Region.wanted o (yielded l.toArray a'.tmps) = true
    · rw [if_pos hwd] at hk
      rw [if_pos hwd]
      exact .inl hk
    · rw [if_neg hwd] at hk
      rw [if_neg hwd]
      exact hk) _ _ _ _ hC H
  rw [htl, show n + (l.toArray.size - n) = l.toArray.size by omega] at this
  exact this
end
end Go.Proofs.Ythgaogbpkedjcaa

/-
  Stores into a block of the call's own that is known whole: one cell; the two cells of an arena.
-/
set_option linter.unusedVariables false
set_option linter.unusedSimpArgs false
namespace Go.Proofs.Ythgaogbpkedjcaa
open Go.RowKit

theorem run_storeVar_cell {P : Program} (w : World) (b j : Nat) (ty : TypeId) (v : Value) (cs : Array Value) (hB : Bx w b cs) (hj : j < cs.size) (hi : (P.info? ty).map (·.size) = some 1) (h1 : v.oneCell' = true) :
    (storeVar ty ⟨b, j, none⟩ v).run P w = .ok () (w.setCell ⟨b, j, none⟩ v) := by
  have hc : v.cells = #[v] := by cases v <;> first | rfl | cases h1
  have h0 := (hB.cell j).trans (Array.getElem?_eq_getElem hj)
  have hf := hB.free j
  cases hq : P.info? ty with
  | none => simp [hq] at hi
  | some i =>
    have hs : i.size = 1 := by simpa [hq] using hi
    have := run_storeCells_cells (P := P) b j [v] 0 w (fun k hk => by
      obtain rfl : k = 0 := by simp at hk; omega
      simpa using (by rw [h0]; rfl : (w.cell? ⟨b, j, none⟩).isSome = true)) (fun k hk => by
      obtain rfl : k = 0 := by simp at hk; omega
      simpa using hf) (fun x hx => by simp at hx; subst hx; exact h1)
    simp only [Nat.add_zero, World.setCells] at this
    simp [storeVar, sizeOf, typeInfo, hq, hc, hs, this]

/-- THE OPERATION: one cell is stored into a block of the call's own. -/
theorem wpList_store_cell {P : Program} {ops : Array Oper} {rest : List Oper} {o : Oper} {a : Act} {w : World} {Q : Exit → Act → World → Prop} (hgd : Region.wanted o (yielded ops a.tmps) = true) (ty : TypeId) (x y : Operand) (ho : o.op = .store ty x y)
    (b j : Nat) (hx : a.eval x = .pointer (some ⟨b, j, none⟩)) (v : Value) (hy : a.eval y = v) (h1 : v.oneCell' = true) (hi : (P.info? ty).map (·.size) = some 1) (cs : Array Value) (hB : Bx w b cs) (hj : j < cs.size)
    (h : ∀ W, Bx W b (cs.setIfInBounds j v) → Only b w W → wpList P ops Q rest (a.put o.dst undef) W) : wpList P ops Q (o :: rest) a w :=
  Go.BigFrame.wpList_want hgd fun K hK => by
    unfold Oper.wp execOp
    simp only [ho, hx, hy, Instr.storeAt, Instr.sureAddr, Sem.run_bind, Sem.run_pure, Result.andThen_ok, run_storeVar_cell w b j ty v cs hB hj hi h1]
    exact hK _ _ (h _ (hB.set hj v) ((Only.refl b w).set j v))

/-- THE OPERATION: an arena by value is stored into the first two cells of a block of the call's own. -/
theorem wpList_store_ar {ops : Array Oper} {rest : List Oper} {o : Oper} {a : Act} {w : World} {Q : Exit → Act → World → Prop} (hgd : Region.wanted o (yielded ops a.tmps) = true) (x y : Operand) (ho : o.op = .store 25 x y)
    (b : Nat) (hx : a.eval x = .pointer (some ⟨b, 0, none⟩)) (u v : Value) (hy : a.eval y = .agg #[u, v]) (hu : u.oneCell' = true) (hv : v.oneCell' = true) (cs : Array Value) (hB : Bx w b cs) (hc : 2 ≤ cs.size)
    (h : ∀ W, Bx W b ((cs.setIfInBounds 0 u).setIfInBounds 1 v) → Only b w W → wpList Try.prog ops Q rest (a.put o.dst undef) W) : wpList Try.prog ops Q (o :: rest) a w := by
  have ht : w.there b 0 (#[u, v] : Array Value).size := fun j hj => by
    rw [Nat.zero_add]
    have hj2 : j < 2 := hj
    refine ⟨?_, hB.free j⟩
    rw [hB.cell j, Array.getElem?_eq_getElem (by omega)]; rfl
  exact Go.BigFrame.wpList_want hgd fun K hK => by
    unfold Oper.wp execOp
    simp only [ho, hx, hy, Sem.run_bind, run_storeAt_mid (P := Try.prog) w b 0 25 #[u, v] ht (by kernel_rfl) (by simp [hu, hv]), Sem.run_pure, Result.andThen_ok]
    refine hK _ _ (h _ ?_ (setCells_only b _ 0 w w (Only.refl b w)))
    exact (hB.set (j := 0) (by omega) u).set (j := 1) (by simp; omega) v
/-- One cell that holds a reference is read. -/
theorem oneCell_slice (A : Option Addr) (n c : Nat) : (Value.slice A n c).oneCell' = true := rfl
theorem oneCell_int (k : IntKind) (z : Int) : (Value.int k z).oneCell' = true := rfl
end Go.Proofs.Ythgaogbpkedjcaa

/-
  A drawing region of two calls in a chain and two allocs, in whatever order ('x, y := f(..), g(..)' of boxed variables).
-/
set_option linter.unusedVariables false
set_option linter.unusedSimpArgs false
namespace Go.Proofs.Ythgaogbpkedjcaa
open Go.RowKit

section
variable {P : Program} {ops : Array Oper} {md : Region.Mode} {S : World → Prop} {Q : Exit → Act → World → Prop} {w : World}

theorem wpOp_of_wp {i : Nat} {o : Oper} {K : Act → World → Prop} {a : Act} {w : World} (ho : ops[i]? = some o) (hw : Region.wanted o (yielded ops a.tmps) = true) (h : Oper.wp P o a w K Q) : wpOp P ops Q i K a w := by
  unfold wpOp
  simp only [ho, hw, if_true]
  exact .inl h

/-- What a slot holds that an alloc has filled, or not yet. -/
def Slot (w W : World) (p : Bool) (v : Value) (c : Array Value) : Prop := (p = false ∧ v = undef) ∨ (p = true ∧ ∃ b, v = .pointer (some ⟨b, 0, none⟩) ∧ Bx W b c ∧ w.heap.size ≤ b)
theorem Slot.to {w W W' : World} {p : Bool} {v : Value} {c : Array Value} (h : Slot w W p v c) (hx : Ext W W') : Slot w W' p v c := by
  rcases h with h | ⟨h, b, h1, h2, h3⟩
  · exact .inl h
  · exact .inr ⟨h, b, h1, h2.to hx, h3⟩
theorem Slot.ne {w W : World} {p : Bool} {v : Value} {c : Array Value} (h : Slot w W p v c) : v ≠ .pointer (some ⟨W.heap.size, 0, none⟩) := by
  rcases h with ⟨_, rfl⟩ | ⟨h, b, rfl, h2, h3⟩
  · intro e; cases e
  · intro e
    injection e with e
    injection e with e
    injection e with e
    have := h2.lt
    omega

theorem held_xy (iA iB i1 i2 : Nat) (vA vB : Value) (c1 c2 : Array Value) (t1 t2 : TypeId) (f : Nat) (lf : Bool → Bool → Bool → Bool → Array Bool) (fr : Value → Value → Value → Value → Act)
    (hlA : ∀ kB p q, (lf false kB p q).setIfInBounds iA true = lf true kB p q) (hlB : ∀ kA p q, (lf kA false p q).setIfInBounds iB true = lf kA true p q)
    (hl1 : ∀ kA kB q, (lf kA kB false q).setIfInBounds i1 true = lf kA kB true q) (hl2 : ∀ kA kB p, (lf kA kB p false).setIfInBounds i2 true = lf kA kB p true)
    (hr : ∀ kA kB p q, (kB = true → kA = true) → ¬ (kA = true ∧ kB = true ∧ p = true ∧ q = true) → Region.ready md ops (lf kA kB p q) ≠ [] ∧ ∀ j ∈ Region.ready md ops (lf kA kB p q), (j = iA ∧ kA = false) ∨ (j = iB ∧ kA = true ∧ kB = false) ∨ (j = i1 ∧ p = false) ∨ (j = i2 ∧ q = false))
    (hA : ∀ v1 v2 W (K : Act → World → Prop), Ext w W → (∀ W', Ext W W' → K (fr vA undef v1 v2) W') → wpOp P ops Q iA K (fr undef undef v1 v2) W)
    (hB : ∀ v1 v2 W (K : Act → World → Prop), Ext w W → (∀ W', Ext W W' → K (fr vA vB v1 v2) W') → wpOp P ops Q iB K (fr vA undef v1 v2) W)
    (h1 : ∀ uA uB v2 W (K : Act → World → Prop), K (fr uA uB (.pointer (some ⟨W.heap.size, 0, none⟩)) v2) (W.alloc (.cells c1 t1)) → wpOp P ops Q i1 K (fr uA uB undef v2) W)
    (h2 : ∀ uA uB v1 W (K : Act → World → Prop), K (fr uA uB v1 (.pointer (some ⟨W.heap.size, 0, none⟩))) (W.alloc (.cells c2 t2)) → wpOp P ops Q i2 K (fr uA uB v1 undef) W)
    (hend : ∀ W b1 b2, Ext w W → b1 ≠ b2 → w.heap.size ≤ b1 → w.heap.size ≤ b2 → Bx W b1 c1 → Bx W b2 c2 → wpAnyH P md ops Q (fun W => Ext w W) f (lf true true true true) (fr vA vB (.pointer (some ⟨b1, 0, none⟩)) (.pointer (some ⟨b2, 0, none⟩))) W)
    {li : Array Bool} {a : Act} {W : World} (hli : li = lf false false false false) (ha : a = fr undef undef undef undef) (hW : Ext w W) : wpAnyH P md ops Q (fun W => Ext w W) (f + 4) li a W := by
  have key : ∀ (n : Nat) (kA kB p q : Bool), (kB = true → kA = true) → kA.toNat + kB.toNat + p.toNat + q.toNat + n = 4 → ∀ (W : World) (v1 v2 : Value), Ext w W → Slot w W p v1 c1 → Slot w W q v2 c2 → (∀ b, v1 = .pointer (some ⟨b, 0, none⟩) → v2 ≠ .pointer (some ⟨b, 0, none⟩)) →
      wpAnyH P md ops Q (fun W => Ext w W) (f + n) (lf kA kB p q) (fr (bif kA then vA else undef) (bif kB then vB else undef) v1 v2) W := by
    intro n
    induction n with
    | zero =>
      intro kA kB p q hk hn W v1 v2 hW s1 s2 hne
      obtain ⟨rfl, rfl, rfl, rfl⟩ : kA = true ∧ kB = true ∧ p = true ∧ q = true := by
        cases kA <;> cases kB <;> cases p <;> cases q <;> simp at hn ⊢
      rcases s1 with ⟨h, _⟩ | ⟨_, b1, rfl, hb1, hs1⟩
      · cases h
      rcases s2 with ⟨h, _⟩ | ⟨_, b2, rfl, hb2, hs2⟩
      · cases h
      exact hend W b1 b2 hW (fun e => hne b1 rfl (by rw [e])) hs1 hs2 hb1 hb2
    | succ n ih =>
      intro kA kB p q hk hn W v1 v2 hW s1 s2 hne
      have hnot : ¬ (kA = true ∧ kB = true ∧ p = true ∧ q = true) := by
        rintro ⟨rfl, rfl, rfl, rfl⟩
        simp at hn
      obtain ⟨hr1, hr2⟩ := hr kA kB p q hk hnot
      refine ⟨fun h0 => absurd h0 hr1, fun j hj => ?_⟩
      rcases hr2 j hj with ⟨rfl, rfl⟩ | ⟨rfl, rfl, rfl⟩ | ⟨rfl, rfl⟩ | ⟨rfl, rfl⟩
      · obtain rfl : kB = false := by cases kB <;> simp_all
        refine hA v1 v2 W _ hW fun W' hx => ⟨hW.step hx, ?_⟩
        rw [hlA]
        exact ih true false p q (fun h => by cases h) (by simp at hn ⊢; omega) W' v1 v2 (hW.step hx) (s1.to hx) (s2.to hx) hne
      · refine hB v1 v2 W _ hW fun W' hx => ⟨hW.step hx, ?_⟩
        rw [hlB]
        exact ih true true p q (fun _ => rfl) (by simp at hn ⊢; omega) W' v1 v2 (hW.step hx) (s1.to hx) (s2.to hx) hne
      · obtain rfl : v1 = undef := by
          rcases s1 with ⟨_, h⟩ | ⟨h, _⟩
          · exact h
          · cases h
        have hx : Ext W (W.alloc (.cells c1 t1)) := (Ext.refl W).new _
        refine h1 _ _ v2 W _ ⟨hW.step hx, ?_⟩
        rw [hl1]
        exact ih kA kB true q hk (by simp at hn ⊢; omega) _ _ v2 (hW.step hx) (.inr ⟨rfl, _, rfl, Bx.new W c1 t1, hW.size⟩) (s2.to hx) (fun b e => by
          injection e with e; injection e with e; injection e with e
          subst e
          exact s2.ne)
      · obtain rfl : v2 = undef := by
          rcases s2 with ⟨_, h⟩ | ⟨h, _⟩
          · exact h
          · cases h
        have hx : Ext W (W.alloc (.cells c2 t2)) := (Ext.refl W).new _
        refine h2 _ _ v1 W _ ⟨hW.step hx, ?_⟩
        rw [hl2]
        exact ih kA kB p true hk (by simp at hn ⊢; omega) _ v1 _ (hW.step hx) (s1.to hx) (.inr ⟨rfl, _, rfl, Bx.new W c2 t2, hW.size⟩) (fun b e h => by
          injection h with h; injection h with h; injection h with h
          exact s1.ne (by rw [h]; exact e))
  subst hli; subst ha
  exact key 4 false false false false (fun h => by cases h) rfl W undef undef hW (.inl ⟨rfl, rfl⟩) (.inl ⟨rfl, rfl⟩) (fun b e => by cases e)
end
end Go.Proofs.Ythgaogbpkedjcaa
