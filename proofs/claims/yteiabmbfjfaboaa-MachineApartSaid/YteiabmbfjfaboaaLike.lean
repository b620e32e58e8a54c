/-
  Contracts: processes that are the same (ref.Like).
-/
import Derived.Test.YteiabmbfjfaboaaRun
import Derived.Laws.StructEq
set_option linter.unusedVariables false
set_option linter.unusedSimpArgs false
namespace Go.Proofs.Yteiabmbfjfaboaa
open Go.RowKit

theorem equalIn_row {P : Program} (d : Nat) (t e : TypeId) (n : Nat) (k : IntKind) (ht : P.underlying t = some (.array n e)) (he : P.underlying e = some (.int k)) (hsz : ∀ w, (sizeOf e).run P w = .ok 1 w) (xs : List Int) (hx : xs.length = n) (w : World) :
    (Op.equalIn (d + 2) t (.agg (xs.map (Value.int k)).toArray) (.agg (xs.map (Value.int k)).toArray)).run P w = .ok true w := by
  rw [Op.equalIn]
  simp only [Sem.run_bind, run_underlying ht, Result.andThen_ok, hsz, Std.Legacy.Range.forIn_eq_forIn_range', Std.Legacy.Range.size, Nat.sub_zero, Nat.add_sub_cancel, Nat.div_one]
  have hl : ∀ i ∈ List.range' 0 n 1, i < n := fun i hi => by simpa using (List.mem_range'_1.1 hi).2
  generalize List.range' 0 n 1 = l at hl ⊢
  induction l with
  | nil => simp
  | cons i l ih =>
    have hi : i < n := hl i (by simp)
    have px : (part e (xs.map (Value.int k)).toArray (i * 1)).run P w = .ok (.int k (xs.getD i 0)) w := by
      simp [part, isAgg, run_underlying he, List.getD, List.getElem?_eq_getElem (show i < xs.length by omega)]
    have pe : (Op.equalIn (d + 1) e (.int k (xs.getD i 0)) (.int k (xs.getD i 0))).run P w = .ok true w := by
      rw [run_equalIn_int w d e k k _ _ he]
      simp
    simp only [List.forIn_cons, Sem.run_bind, px, pe, Result.andThen_ok]
    simp only [Bool.not_true, Bool.false_eq_true, if_false, Sem.run_pure, Result.andThen_ok]
    exact ih fun j hj => hl j (by simp [hj])

theorem regs_same (a b c d : Int) (w : World) : (Op.equalIn 10000 25 (.agg #[.int .u64 a, .int .u64 b, .int .u64 c, .int .u64 d]) (.agg #[.int .u64 a, .int .u64 b, .int .u64 c, .int .u64 d])).run Try.prog w = .ok true w :=
  equalIn_row 9998 25 24 4 .u64 Try.underlying25 Try.underlying24 (fun w => by kernel_rfl) [a, b, c, d] rfl w

set_option maxHeartbeats 1000000 in
theorem like_yes (A B : Option Addr) (c d : Nat) (p : Pc) (w : World) (ha : Prg w A p.prog) (hb : Prg w B p.prog) (hl : p.prog.length ≤ 1000) :
    Calls Try.prog 16 #[.agg #[.slice A p.prog.length c, .int .i64 p.at_, .int .u64 (p.rs 0), .int .u64 (p.rs 1), .int .u64 (p.rs 2), .int .u64 (p.rs 3), .bool p.done, .int .i64 p.took], .agg #[.slice B p.prog.length d, .int .i64 p.at_, .int .u64 (p.rs 0), .int .u64 (p.rs 1), .int .u64 (p.rs 2), .int .u64 (p.rs 3), .bool p.done, .int .i64 p.took]] w fun e w' => e = .returned (.bool true) ∧ Ext w w' := by
  have hreg := regs_same (p.rs 0) (p.rs 1) (p.rs 2) (p.rs 3)
  go_enter Try.func16, Try.ntmps16
  go_wp2_with fail
  go_loopw [44] (fun j wr => Ext ((w.alloc (.cells #[.slice A p.prog.length c, .int .i64 p.at_, .int .u64 (p.rs 0), .int .u64 (p.rs 1), .int .u64 (p.rs 2), .int .u64 (p.rs 3), .bool p.done, .int .i64 p.took] 27)).alloc (.cells #[.slice B p.prog.length d, .int .i64 p.at_, .int .u64 (p.rs 0), .int .u64 (p.rs 1), .int .u64 (p.rs 2), .int .u64 (p.rs 3), .bool p.done, .int .i64 p.took] 27)) wr ∧ ∃ k : Nat, k ≤ p.prog.length ∧ j = .int .i64 k) (fun j _ => p.prog.length - (intOf j).toNat)
  case atStart => exact ⟨Ext.refl _, 0, Nat.zero_le _, rfl⟩
  case round =>
    obtain ⟨hx0, k, hk, rfl⟩ := hrel
    have hx := (((Ext.refl w).new _).new _).step hx0
    by_cases hlt : k < p.prog.length
    · obtain ⟨x, hxk⟩ : ∃ x, p.prog[k]? = some x := ⟨_, List.getElem?_eq_getElem hlt⟩
      obtain ⟨ad, rfl, g0, g1, g2, g3, g4⟩ := (ha.to hx).at hxk
      obtain ⟨bd, rfl, q0, q1, q2, q3, q4⟩ := (hb.to hx).at hxk
      clear hxk
      have B1 := ((Bx.new w #[.slice ((some ad)) p.prog.length c, .int .i64 p.at_, .int .u64 (p.rs 0), .int .u64 (p.rs 1), .int .u64 (p.rs 2), .int .u64 (p.rs 3), .bool p.done, .int .i64 p.took] 27).alloc _).to hx0
      have B2 := (Bx.new (w.alloc (.cells #[.slice ((some ad)) p.prog.length c, .int .i64 p.at_, .int .u64 (p.rs 0), .int .u64 (p.rs 1), .int .u64 (p.rs 2), .int .u64 (p.rs 3), .bool p.done, .int .i64 p.took] 27)) #[.slice ((some bd)) p.prog.length d, .int .i64 p.at_, .int .u64 (p.rs 0), .int .u64 (p.rs 1), .int .u64 (p.rs 2), .int .u64 (p.rs 3), .bool p.done, .int .i64 p.took] 27).to hx0
      simp at B2
      have k1 := B1.cell 0; have k2 := B2.cell 0
      go_wp2_with fail
      go_quiet (fail)
      go_wp2_with fail
      go_roundw
      case rel => exact ⟨hx0.drewN _, k + 1, by omega, by go_num⟩
      case measure => simp [intOf]; omega
    · go_wp2_with fail
      go_ret
      exact ⟨rfl, hx⟩

end Go.Proofs.Yteiabmbfjfaboaa
