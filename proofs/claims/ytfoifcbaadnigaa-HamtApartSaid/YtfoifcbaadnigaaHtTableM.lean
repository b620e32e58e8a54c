/-
  The mathematics of tables of leaves: those of each digit, how many nodes are made; four rows of references in a variable.
-/
import Derived.Test.YtfoifcbaadnigaaHtTrie
set_option linter.unusedVariables false
set_option linter.unusedSimpArgs false
namespace Go.Proofs.Ytfoifcbaadnigaa
open Go.RowKit

def ofL (ls : List Lf) (lv : Nat) (i : Int) : List Lf := ls.filter (fun y => dig y.k lv == i)
/-- How many nodes the table of leaves takes. -/
def ctF : Nat → Nat → List Lf → Nat
  | 0, _, ls => if ls.length ≤ 1 then 0 else 1
  | f + 1, lv, ls => if ls.length ≤ 1 then 0 else 1 + (ctF f (lv + 1) (ofL ls lv 0) + (ctF f (lv + 1) (ofL ls lv 1) + (ctF f (lv + 1) (ofL ls lv 2) + ctF f (lv + 1) (ofL ls lv 3))))
theorem mem_ofL {ls : List Lf} {lv : Nat} {i : Int} {y : Lf} : y ∈ ofL ls lv i ↔ y ∈ ls ∧ dig y.k lv = i := by simp [ofL]
theorem ofL_parts (lv : Nat) : ∀ l : List Lf, (ofL l lv 0 ++ (ofL l lv 1 ++ (ofL l lv 2 ++ ofL l lv 3))).Perm l
  | [] => List.Perm.refl _
  | x :: l => by
    have ih := ofL_parts lv l
    have hd := dig_rng x.k lv
    have hc : dig x.k lv = 0 ∨ dig x.k lv = 1 ∨ dig x.k lv = 2 ∨ dig x.k lv = 3 := by omega
    unfold ofL at *
    simp only [List.filter_cons]
    rcases hc with h | h | h | h <;> simp only [h] <;> simp only [beq_self_eq_true, if_true, show ((0 : Int) == 1) = false from rfl, show ((0 : Int) == 2) = false from rfl, show ((0 : Int) == 3) = false from rfl, show ((1 : Int) == 0) = false from rfl, show ((1 : Int) == 2) = false from rfl, show ((1 : Int) == 3) = false from rfl, show ((2 : Int) == 0) = false from rfl, show ((2 : Int) == 1) = false from rfl, show ((2 : Int) == 3) = false from rfl, show ((3 : Int) == 0) = false from rfl, show ((3 : Int) == 1) = false from rfl, show ((3 : Int) == 2) = false from rfl, Bool.false_eq_true, if_false]
    · exact ih.cons _
    · exact List.perm_middle.trans (ih.cons _)
    · rw [← List.append_assoc]
      refine List.perm_middle.trans ?_
      rw [List.append_assoc]
      exact ih.cons _
    · rw [← List.append_assoc, ← List.append_assoc]
      refine List.perm_middle.trans ?_
      rw [List.append_assoc, List.append_assoc]
      exact ih.cons _
theorem ofL_len (lv : Nat) (l : List Lf) : (ofL l lv 0).length + ((ofL l lv 1).length + ((ofL l lv 2).length + (ofL l lv 3).length)) = l.length := by
  have := (ofL_parts lv l).length_eq
  simpa using this
theorem ofL_le (l : List Lf) (lv : Nat) (i : Int) : (ofL l lv i).length ≤ l.length := List.length_filter_le _ _
theorem take_snocL {ls : List Lf} {k : Nat} {y : Lf} (hy : ls[k]? = some y) : ls.take (k + 1) = ls.take k ++ [y] := by
  rw [List.take_add_one, hy]; rfl
theorem ofL_snoc {ls : List Lf} {k : Nat} {y : Lf} (hy : ls[k]? = some y) (lv : Nat) (i : Int) : ofL (ls.take (k + 1)) lv i = ofL (ls.take k) lv i ++ (if dig y.k lv = i then [y] else []) := by
  unfold ofL
  rw [take_snocL hy, List.filter_append]
  by_cases h : dig y.k lv = i <;> simp [h]

/-- Leaves of one table at a level: unlike hashes, the same lower digits. -/
structure Good (ns : List Nd) (lv : Nat) (ls : List Lf) : Prop where
  lf : ∀ y ∈ ls, Lv ns y
  u : ∀ y ∈ ls, U y.r
  ne : ls.Pairwise (fun a b => hsI a.k ≠ hsI b.k)
  pas : ∃ q, ∀ y ∈ ls, pas y.k lv = q
theorem Good.of {ns : List Nd} {lv : Nat} {ls : List Lf} (h : Good ns lv ls) (i : Int) : Good ns (lv + 1) (ofL ls lv i) := by
  obtain ⟨q, hq⟩ := h.pas
  exact ⟨fun y hy => h.lf y (mem_ofL.1 hy).1, fun y hy => h.u y (mem_ofL.1 hy).1, List.Pairwise.filter _ h.ne, q + i * (4 : Int) ^ lv, fun y hy => by rw [pas_succ, hq y (mem_ofL.1 hy).1, (mem_ofL.1 hy).2]⟩
theorem Good.mono {ns ns' : List Nd} (hk : ∀ r p x, Got ns r p x → Got ns' r p x) {lv : Nat} {ls : List Lf} (h : Good ns lv ls) : Good ns' lv ls := ⟨fun y hy => Lv.mono hk (h.lf y hy), h.u, h.ne, h.pas⟩
theorem Good.last {ns : List Nd} {ls : List Lf} (h : Good ns 10 ls) : ls.length ≤ 1 := by
  obtain ⟨q, hq⟩ := h.pas
  match ls, h with
  | [], _ => simp
  | [_], _ => simp
  | a :: b :: l, h =>
    have h1 := hq a (by simp)
    have h2 := hq b (by simp)
    rw [pas_all] at h1 h2
    have := (List.pairwise_cons.1 h.ne).1 b (by simp)
    exact absurd (h1.trans h2.symm) this

/-! ### Four rows in a variable -/
def arr4 (F : Nat → Value) : Array Value := #[F 0, F 1, F 2, F 3]
theorem arr4_get (F : Nat → Value) {d : Nat} (hd : d < 4) : (arr4 F)[d]? = some (F d) := by
  rcases (by omega : d = 0 ∨ d = 1 ∨ d = 2 ∨ d = 3) with rfl | rfl | rfl | rfl <;> rfl
def upd {α : Type} (F : Nat → α) (d : Nat) (v : α) : Nat → α := fun i => if i = d then v else F i
theorem arr4_set (F : Nat → Value) {d : Nat} (hd : d < 4) (v : Value) : (arr4 F).setIfInBounds d v = arr4 (upd F d v) := by
  rcases (by omega : d = 0 ∨ d = 1 ∨ d = 2 ∨ d = 3) with rfl | rfl | rfl | rfl <;> rfl
structure R4 (W : World) (base b : Nat) (F : Nat → Value) (P : Nat → List Int) : Prop where
  box : Bx W b (arr4 F)
  own : ∀ i, i < 4 → W.ownsRow base 31 1 (F i) (P i).length (Us (P i))
  ne : ∀ i, i < 4 → ∀ j, j < 4 → i ≠ j → (F i).ownBlock = none ∨ (F i).ownBlock ≠ (F j).ownBlock
  nb : ∀ i, i < 4 → (F i).ownBlock ≠ some b
theorem grown_none' {W W' : World} (h : Ext W W') : W.grownBy W' none := ⟨h.os, h.tape, h.output, h.size, fun k hk _ => h.block k hk⟩
theorem R4.to {W W' : World} {base b : Nat} {F : Nat → Value} {P : Nat → List Int} (h : R4 W base b F P) (hx : Ext W W') : R4 W' base b F P :=
  ⟨h.box.to hx, fun i hi => own_ext (h.own i hi) hx, h.ne, h.nb⟩
theorem R4.push {W W1 : World} {base b : Nat} {F : Nat → Value} {P : Nat → List Int} (h : R4 W base b F P) {d : Nat} (hd : d < 4) {v' : Value} {z : Int} (hown : W1.ownsRow base 31 1 v' ((P d).length + 1) (Us (P d) ++ [.int .u64 z])) (hg : W.grownBy W1 (F d).ownBlock) (hb : v'.ownBlock = (F d).ownBlock ∨ v'.ownBlock = some W.heap.size) :
    R4 (W1.setCell ⟨b, d, none⟩ v') base b (upd F d v') (upd P d (P d ++ [z])) := by
  have hbx1 : Bx W1 b (arr4 F) := by
    have e := hg.block b h.box.lt (h.nb d hd).symm
    exact ⟨Nat.lt_of_lt_of_le h.box.lt hg.size, fun j => (World.cell?_of_block (a := ⟨b, j, none⟩) e).trans (h.box.cell j), fun j => by
      have := h.box.free j
      unfold World.frozen? at this ⊢
      rw [e]
      exact this⟩
  have hgs : W1.grownBy (W1.setCell ⟨b, d, none⟩ v') (some b) := (Only.refl b W1).set d v'
  have hv'b : v'.ownBlock ≠ some b := by
    rcases hb with hb | hb
    · rw [hb]; exact h.nb d hd
    · rw [hb]; intro e; injection e with e; have := h.box.lt; omega
  have hlen : ∀ i, i < 4 → W1.ownsRow base 31 1 (upd F d v' i) (upd P d (P d ++ [z]) i).length (Us (upd P d (P d ++ [z]) i)) := fun i hi => by
    by_cases e : i = d
    · subst e
      simp only [upd, if_true]
      have : Us (P i ++ [z]) = Us (P i) ++ [.int .u64 z] := by simp [Us]
      rw [this]
      simpa using hown
    · simp only [upd, if_neg e]
      exact (h.own i hi).kept hg (h.ne i hi d hd e)
  have hnb : ∀ i, i < 4 → (upd F d v' i).ownBlock ≠ some b := fun i hi => by
    by_cases e : i = d
    · subst e; simpa [upd] using hv'b
    · simp only [upd, if_neg e]; exact h.nb i hi
  refine ⟨?_, fun i hi => (hlen i hi).kept hgs (.inr (hnb i hi)), fun i hi j hj hij => ?_, hnb⟩
  · rw [← arr4_set F hd]
    exact hbx1.set (by simp [arr4]; exact hd) _
  · by_cases e : i = d
    · subst e
      have hji : j ≠ i := fun e => hij e.symm
      simp only [upd, if_true, if_neg hji]
      rcases hb with hb | hb
      · rw [hb]; exact h.ne i hi j hj hij
      · refine .inr (fun e' => ?_)
        have h1 := ((h.own j hj).lt W.heap.size (by rw [← e', hb])).2
        omega
    · by_cases e2 : j = d
      · subst e2
        simp only [upd, if_neg e, if_true]
        rcases hb with hb | hb
        · rw [hb]; exact h.ne i hi j hj hij
        · cases hq : (F i).ownBlock with
          | none => exact .inl rfl
          | some g =>
            refine .inr (fun e' => ?_)
            rw [hb] at e'
            injection e' with e'
            have h1 := ((h.own i hi).lt g hq).2
            omega
      · simp only [upd, if_neg e, if_neg e2]
        exact h.ne i hi j hj hij
/-- A block in which no signed number lies. -/
def NoS (W : World) (g : Nat) : Prop := ∀ (q : Addr) (z : Int), W.cell? q = some (.int .i64 z) → q.block ≠ g
theorem Bx.noS {W : World} {b : Nat} {cs : Array Value} (h : Bx W b cs) (hu : ∀ (j : Nat) (z : Int), cs[j]? ≠ some (.int .i64 z)) : NoS W b := fun q z hq e => by
  obtain ⟨qb, qo, qs⟩ := q
  simp only at e
  subst e
  cases qs with
  | none => rw [h.cell qo] at hq; exact hu _ _ hq
  | some x =>
    unfold World.cell? at hq
    simp only [Option.isSome_some, if_true] at hq
    split at hq <;> cases hq
theorem Rd.stepS {W W' : World} {size n g : Nat} {A : Option Addr} {xs : List Value} {z : Int} (h : Rd W size A n xs) (hg : W.grownBy W' (some g)) (hn : NoS W g) (hz : xs[0]? = some (.int .i64 z) ∨ xs = []) : Rd W' size A n xs := by
  rcases hz with hz | rfl
  · obtain ⟨ad, rfl, hc⟩ := h.2 0 _ hz
    refine h.grown hg fun q hq e => ?_
    injection hq with hq
    subst hq
    injection e with e
    have := hn _ _ hc
    rw [addr_block] at this
    exact this e.symm
  · exact ⟨h.1, fun j u hu => by simp at hu⟩
theorem Ar.stepS {W W' : World} {A B : Option Addr} {n m g : Nat} {ns : List Nd} {fs : List Int} (h : Ar W A n B m ns fs) (hg : W.grownBy W' (some g)) (hn : NoS W g) : Ar W' A n B m ns fs := by
  refine ⟨?_, ?_, h.ok⟩
  · cases ns with
    | nil => exact Rd.stepS (z := 0) h.nodes hg hn (.inr rfl)
    | cons x ns => exact Rd.stepS (z := x.k) h.nodes hg hn (.inl rfl)
  · cases fs with
    | nil => exact Rd.stepS (z := 0) h.free hg hn (.inr rfl)
    | cons x fs => exact Rd.stepS (z := x) h.free hg hn (.inl rfl)
theorem Mk.stepS {W W' : World} {b g : Nat} {ns : List Nd} {fs : List Int} {err : Int} (h : Mk W b ns fs err) (hg : W.grownBy W' (some g)) (hn : NoS W g) (hb : g ≠ b) : Mk W' b ns fs err := by
  obtain ⟨A, n, c, B, m, d, h1, h2, h3⟩ := h.box
  exact ⟨⟨A, n, c, B, m, d, h1.grown hg (fun e => hb (by injection e)), h2.stepS hg hn, h3⟩, h.may, h.err⟩
theorem arr4_noS (f : Nat → Int) : ∀ (j : Nat) (z : Int), (arr4 (fun i => .int .u64 (f i)))[j]? ≠ some (.int .i64 z) := fun j z h => by
  by_cases hj : j < 4
  · rw [arr4_get _ hj] at h
    cases h
  · rw [Array.getElem?_eq_none (by simp [arr4]; omega)] at h
    cases h
theorem run_index4_0 (A0 A1 A2 A3 : Option Addr) (l0 l1 l2 l3 c0 c1 c2 c3 : Nat) (w : World) : (Instr.index 106 (.agg #[.slice A0 l0 c0, .slice A1 l1 c1, .slice A2 l2 c2, .slice A3 l3 c3]) (.int .i64 (0 : Nat))).run Try.prog w = .ok (.slice A0 l0 c0) w := by
  simp [Instr.index, run_underlying Try.underlying106, asIntOf, part, isAgg, run_underlying Try.underlying78, go_sem]
theorem run_index4_1 (A0 A1 A2 A3 : Option Addr) (l0 l1 l2 l3 c0 c1 c2 c3 : Nat) (w : World) : (Instr.index 106 (.agg #[.slice A0 l0 c0, .slice A1 l1 c1, .slice A2 l2 c2, .slice A3 l3 c3]) (.int .i64 (1 : Nat))).run Try.prog w = .ok (.slice A1 l1 c1) w := by
  simp [Instr.index, run_underlying Try.underlying106, asIntOf, part, isAgg, run_underlying Try.underlying78, go_sem]
theorem run_index4_2 (A0 A1 A2 A3 : Option Addr) (l0 l1 l2 l3 c0 c1 c2 c3 : Nat) (w : World) : (Instr.index 106 (.agg #[.slice A0 l0 c0, .slice A1 l1 c1, .slice A2 l2 c2, .slice A3 l3 c3]) (.int .i64 (2 : Nat))).run Try.prog w = .ok (.slice A2 l2 c2) w := by
  simp [Instr.index, run_underlying Try.underlying106, asIntOf, part, isAgg, run_underlying Try.underlying78, go_sem]
theorem run_index4_3 (A0 A1 A2 A3 : Option Addr) (l0 l1 l2 l3 c0 c1 c2 c3 : Nat) (w : World) : (Instr.index 106 (.agg #[.slice A0 l0 c0, .slice A1 l1 c1, .slice A2 l2 c2, .slice A3 l3 c3]) (.int .i64 (3 : Nat))).run Try.prog w = .ok (.slice A3 l3 c3) w := by
  simp [Instr.index, run_underlying Try.underlying106, asIntOf, part, isAgg, run_underlying Try.underlying78, go_sem]
theorem ref_inf : (Try.prog.info? 31).map (fun i => (i.zero, i.size, i.bytes)) = some (some (.int .u64 0), 1, 8) := by kernel_rfl
theorem parts_map {ls : List Lf} {k : Nat} {y : Lf} (hy : ls[k]? = some y) (lv : Nat) {d : Nat} (hd : dig y.k lv = d) : (fun i : Nat => (ofL (ls.take (k + 1)) lv i).map Lf.r) = upd (fun i : Nat => (ofL (ls.take k) lv i).map Lf.r) d ((ofL (ls.take k) lv d).map Lf.r ++ [y.r]) := by
  funext i
  simp only [ofL_snoc hy, upd]
  by_cases e : i = d
  · subst e; rw [if_pos hd]; simp
  · rw [if_neg (by rw [hd]; omega), if_neg e]; simp
theorem ctF_one {f lv : Nat} {ls : List Lf} (h : ls.length ≤ 1) : ctF f lv ls = 0 := by
  cases f with
  | zero => simp [ctF, h]
  | succ f => simp [ctF, h]

end Go.Proofs.Ytfoifcbaadnigaa
