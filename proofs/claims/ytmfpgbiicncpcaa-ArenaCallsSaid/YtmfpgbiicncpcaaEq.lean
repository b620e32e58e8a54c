/-
  Two whole nodes, compared; rightNode.
-/
import Derived.Test.YtmfpgbiicncpcaaParts
set_option linter.unusedVariables false
set_option linter.unusedSimpArgs false
namespace Go.Proofs.Ytmfpgbiicncpcaa
open Go.RowKit

/-- Two rows of integers, compared. -/
theorem equalIn_rows {P : Program} (d : Nat) (t e : TypeId) (n : Nat) (k : IntKind) (ht : P.underlying t = some (.array n e)) (he : P.underlying e = some (.int k)) (hsz : ∀ w, (sizeOf e).run P w = .ok 1 w) (xs ys : List Int) (hx : xs.length = n) (hy : ys.length = n) (w : World) :
    (Op.equalIn (d + 2) t (.agg (xs.map (Value.int k)).toArray) (.agg (ys.map (Value.int k)).toArray)).run P w = .ok (decide (xs = ys)) w := by
  have px : ∀ (zs : List Int) (i : Nat), i < zs.length → (part e (zs.map (Value.int k)).toArray (i * 1)).run P w = .ok (.int k (zs.getD i 0)) w := fun zs i hi => by
    simp [part, isAgg, run_underlying he, List.getD, List.getElem?_eq_getElem hi]
  have pe : ∀ a b : Int, (Op.equalIn (d + 1) e (.int k a) (.int k b)).run P w = .ok (a == b) w := fun a b => by rw [run_equalIn_int w d e k k _ _ he]
  have key : ∀ (m s : Nat), s + m = n → (∀ i, i < s → xs[i]? = ys[i]?) →
      (forIn (List.range' s m 1) ((none, ()) : Option Bool × Unit) fun i r => do
        let a ← part e (xs.map (Value.int k)).toArray (i * 1)
        let b ← part e (ys.map (Value.int k)).toArray (i * 1)
        let r ← Op.equalIn (d + 1) e a b
        if (!r) = true then pure (ForInStep.done (some false, ())) else pure (ForInStep.yield (none, ()))).run P w = .ok (if xs = ys then none else some false, ()) w := by
    intro m
    induction m with
    | zero =>
      intro s hs hall
      have e : xs = ys := List.ext_getElem? fun i => by
        by_cases hi : i < s
        · exact hall i hi
        · rw [List.getElem?_eq_none (by omega), List.getElem?_eq_none (by omega)]
      simp [e]
    | succ m ih =>
      intro s hs hall
      simp only [List.range'_succ, List.forIn_cons, Sem.run_bind, px xs s (by omega), px ys s (by omega), pe, Result.andThen_ok]
      have ex : xs[s]? = some (xs.getD s 0) := by simp [List.getD, List.getElem?_eq_getElem (show s < xs.length by omega)]
      have ey : ys[s]? = some (ys.getD s 0) := by simp [List.getD, List.getElem?_eq_getElem (show s < ys.length by omega)]
      by_cases hq : xs.getD s 0 = ys.getD s 0
      · have hb : (xs.getD s 0 == ys.getD s 0) = true := beq_iff_eq.mpr hq
        rw [hb]
        simp only [Bool.not_true, Bool.false_eq_true, if_false, Sem.run_pure, Result.andThen_ok]
        exact ih (s + 1) (by omega) fun i hi => by
          by_cases e : i = s
          · subst e
            rw [ex, ey]; exact congrArg some hq
          · exact hall i (by omega)
      · have hb : (xs.getD s 0 == ys.getD s 0) = false := by simpa using hq
        have hne : xs ≠ ys := fun e => hq (by rw [e])
        rw [hb]
        simp only [Bool.not_false, if_true, Sem.run_pure, Result.andThen_ok, if_neg hne]
  rw [Op.equalIn]
  simp only [Sem.run_bind, run_underlying ht, Result.andThen_ok, hsz, Std.Legacy.Range.forIn_eq_forIn_range', Std.Legacy.Range.size, Nat.sub_zero, Nat.add_sub_cancel, Nat.div_one]
  rw [key n 0 (by omega) (fun i hi => by omega)]
  by_cases h : xs = ys
  · simp [h]
  · simp [h]

theorem fields_node : Try.prog.fieldsOf 30 = (match Try.prog.underlying 30 with | some (.struct fs) => fs | _ => #[]) := rfl
theorem kids_array (x : Nd) : x.arr.extract 5 14 = (x.kids.map (Value.int .u64)).toArray := by simp [Nd.arr, Nd.kids]

theorem Nd.ext_iff' (x y : Nd) : x = y ↔ (x.k = y.k ∧ x.g = y.g ∧ x.n = y.n ∧ x.v = y.v ∧ x.s = y.s ∧ x.kids = y.kids ∧ x.pre = y.pre ∧ x.suf = y.suf) := by
  cases x; cases y
  simp only [Nd.kids, Nd.mk.injEq, List.cons.injEq, and_true, and_assoc]

theorem eqFields_step {P : Program} {w : World} {d : Nat} {xs ys : Array Value} {f : Field} {fs : List Field} {a b : Value} {r : Bool} {ty : TypeId} {o : Nat} (ha : (part ty xs o).run P w = .ok a w) (hb : (part ty ys o).run P w = .ok b w)
    (hr : (Op.equalIn d ty a b).run P w = .ok r w) (hn : f.name ≠ "_") (ht : f.type = ty) (ho : f.offset = o) {q : Bool} (hq : (Op.eqFields d xs ys fs).run P w = .ok q w) : (Op.eqFields d xs ys (f :: fs)).run P w = .ok (r && q) w := by
  subst ht ho
  rw [Op.eqFields]
  simp only [if_pos hn, Sem.run_bind, ha, hb, hr, Result.andThen_ok]
  cases r
  · simp
  · simp [hq]

theorem kids_eq (x y : Nd) (w : World) : (Op.equalIn 9999 28 (.agg (x.kids.map (Value.int .u64)).toArray) (.agg (y.kids.map (Value.int .u64)).toArray)).run Try.prog w = .ok (decide (x.kids = y.kids)) w :=
  equalIn_rows 9997 28 27 9 .u64 Try.underlying28 Try.underlying27 (fun w => by kernel_rfl) x.kids y.kids rfl rfl w

theorem part_i64 {w : World} {t : TypeId} (ht : Try.prog.underlying t = some (.int .i64)) (x : Nd) (j : Nat) (v : Value) (hv : x.arr[j]? = some v) : (part t x.arr j).run Try.prog w = .ok v w := by
  have : x.arr.getD j undef = v := by rw [Array.getD_eq_getD_getElem?, hv]; rfl
  simp [part, isAgg, run_underlying ht, hv]
theorem part_kids {w : World} (x : Nd) : (part 28 x.arr 5).run Try.prog w = .ok (.agg (x.kids.map (Value.int .u64)).toArray) w := by
  have h : (sizeOf 28).run Try.prog w = .ok 9 w := by kernel_rfl
  simp [part, isAgg, run_underlying Try.underlying28, h, Nd.arr, Nd.kids]

theorem Nd.a0 (x : Nd) : x.arr[0]? = some (.int .i64 x.k) := by simp [Nd.arr]
theorem Nd.a1 (x : Nd) : x.arr[1]? = some (.int .i64 x.g) := by simp [Nd.arr]
theorem Nd.a2 (x : Nd) : x.arr[2]? = some (.int .i64 x.n) := by simp [Nd.arr]
theorem Nd.a3 (x : Nd) : x.arr[3]? = some (.int .i64 x.v) := by simp [Nd.arr]
theorem Nd.a4 (x : Nd) : x.arr[4]? = some (.int .i64 x.s) := by simp [Nd.arr]
theorem Nd.a14 (x : Nd) : x.arr[14]? = some (.int .i64 x.pre) := by simp [Nd.arr]
theorem Nd.a15 (x : Nd) : x.arr[15]? = some (.int .i64 x.suf) := by simp [Nd.arr]

theorem nd_eq (x y : Nd) (w : World) : (Op.equalIn 10000 30 (.agg x.arr) (.agg y.arr)).run Try.prog w = .ok (decide (x = y)) w := by
  have hu := Try.underlying30
  rw [show (10000 : Nat) = 9999 + 1 from rfl, run_equalIn_struct w 9999 30 x.arr y.arr (by kernel_rfl) (by kernel_rfl)]
  unfold Program.fieldsOf
  rw [hu]
  dsimp only
  have e : decide (x = y) = (x.k == y.k && (x.g == y.g && (x.n == y.n && (x.v == y.v && (x.s == y.s && (decide (x.kids = y.kids) && (x.pre == y.pre && (x.suf == y.suf && true)))))))) := by
    rw [Bool.eq_iff_iff]
    simp only [Bool.and_eq_true, decide_eq_true_eq, beq_iff_eq, and_true]
    exact Nd.ext_iff' x y
  rw [e]
  have p0 := part_i64 (w := w) Try.underlying3 x 0 _ x.a0
  have q0 := part_i64 (w := w) Try.underlying3 y 0 _ y.a0
  have e0 : (Op.equalIn 9999 3 (.int .i64 x.k) (.int .i64 y.k)).run Try.prog w = .ok (x.k == y.k) w := run_equalIn_int w 9998 3 .i64 .i64 _ _ Try.underlying3
  have p1 := part_i64 (w := w) Try.underlying3 x 1 _ x.a1
  have q1 := part_i64 (w := w) Try.underlying3 y 1 _ y.a1
  have e1 : (Op.equalIn 9999 3 (.int .i64 x.g) (.int .i64 y.g)).run Try.prog w = .ok (x.g == y.g) w := run_equalIn_int w 9998 3 .i64 .i64 _ _ Try.underlying3
  have p2 := part_i64 (w := w) Try.underlying2 x 2 _ x.a2
  have q2 := part_i64 (w := w) Try.underlying2 y 2 _ y.a2
  have e2 : (Op.equalIn 9999 2 (.int .i64 x.n) (.int .i64 y.n)).run Try.prog w = .ok (x.n == y.n) w := run_equalIn_int w 9998 2 .i64 .i64 _ _ Try.underlying2
  have p3 := part_i64 (w := w) Try.underlying2 x 3 _ x.a3
  have q3 := part_i64 (w := w) Try.underlying2 y 3 _ y.a3
  have e3 : (Op.equalIn 9999 2 (.int .i64 x.v) (.int .i64 y.v)).run Try.prog w = .ok (x.v == y.v) w := run_equalIn_int w 9998 2 .i64 .i64 _ _ Try.underlying2
  have p4 := part_i64 (w := w) Try.underlying2 x 4 _ x.a4
  have q4 := part_i64 (w := w) Try.underlying2 y 4 _ y.a4
  have e4 : (Op.equalIn 9999 2 (.int .i64 x.s) (.int .i64 y.s)).run Try.prog w = .ok (x.s == y.s) w := run_equalIn_int w 9998 2 .i64 .i64 _ _ Try.underlying2
  have p14 := part_i64 (w := w) Try.underlying3 x 14 _ x.a14
  have q14 := part_i64 (w := w) Try.underlying3 y 14 _ y.a14
  have e14 : (Op.equalIn 9999 3 (.int .i64 x.pre) (.int .i64 y.pre)).run Try.prog w = .ok (x.pre == y.pre) w := run_equalIn_int w 9998 3 .i64 .i64 _ _ Try.underlying3
  have p15 := part_i64 (w := w) Try.underlying3 x 15 _ x.a15
  have q15 := part_i64 (w := w) Try.underlying3 y 15 _ y.a15
  have e15 : (Op.equalIn 9999 3 (.int .i64 x.suf) (.int .i64 y.suf)).run Try.prog w = .ok (x.suf == y.suf) w := run_equalIn_int w 9998 3 .i64 .i64 _ _ Try.underlying3
  have p5 := part_kids (w := w) x
  have q5 := part_kids (w := w) y
  have e5 := kids_eq x y w
  refine eqFields_step p0 q0 e0 (by decide) rfl rfl ?_
  refine eqFields_step p1 q1 e1 (by decide) rfl rfl ?_
  refine eqFields_step p2 q2 e2 (by decide) rfl rfl ?_
  refine eqFields_step p3 q3 e3 (by decide) rfl rfl ?_
  refine eqFields_step p4 q4 e4 (by decide) rfl rfl ?_
  refine eqFields_step p5 q5 e5 (by decide) rfl rfl ?_
  refine eqFields_step p14 q14 e14 (by decide) rfl rfl ?_
  refine eqFields_step p15 q15 e15 (by decide) rfl rfl ?_
  simp [Op.eqFields]

end Go.Proofs.Ytmfpgbiicncpcaa
