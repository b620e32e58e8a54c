/-
  Texts in one: OrCalls OrAlive OrItem OrV.
-/
import Derived.Test.YthgaogbpkedjcaaOrDown
import Derived.Test.YthgaogbpkedjcaaTrRight
import Derived.Test.YthgaogbpkedjcaaRfBuild
import Derived.Test.YthgaogbpkedjcaaArV

/-
  Contracts of package order: Size, At, Rank, Floor, Ceil.
-/
set_option linter.unusedVariables false
set_option linter.unusedSimpArgs false
namespace Go.Proofs.Ythgaogbpkedjcaa
open Go.RowKit

theorem cfCeil (args : Array Value) (w : World) : (callFunc 50 args).run Try.prog w = .ok (.enter 50 args) w := by kernel_rfl
theorem clCeil_is (bx : Nat) (q k p : Int) (W : World) (hB : Bx W bx #[.int .i64 q]) : Calls Try.prog 50 #[.int .i64 k, .int .i64 p, .pointer (some ⟨bx, 0, none⟩)] W fun e w' => e = .returned (.bool ((fun k _ => decide (q ≤ k) : Int → Int → Bool) k p)) ∧ Ext W w' := by
  have c0 : W.cell? ⟨bx, 0, none⟩ = some (.int .i64 q) := hB.cell 0
  by_cases h : q ≤ k
  · rw [show ((fun k _ => decide (q ≤ k) : Int → Int → Bool) k p) = true by simpa using h]
    go_enter Try.func50, Try.ntmps50
    go_wp2_with fail
    go_ret
    exact ⟨rfl, Ext.refl W⟩
  · rw [show ((fun k _ => decide (q ≤ k) : Int → Int → Bool) k p) = false by simpa using h]
    go_enter Try.func50, Try.ntmps50
    go_wp2_with fail
    go_ret
    exact ⟨rfl, Ext.refl W⟩

theorem item_of (A B : Option Addr) (n c m d : Nat) (ns : List Nd) (t : T) (z : Int) (o : Option (Int × Int)) (w : World) (hR : Rep ns t) (hU : U t.ref) (h : Rd w 16 A n (flat Nd.cells ns)) (hok : ∀ x ∈ ns, x.Ok) (ho : (o = none ∧ z = 0) ∨ ∃ a, o = some a ∧ t.At z a) :
    Calls Try.prog 51 #[.agg #[.slice A n c, .slice B m d], .int .u64 z] w (ItemA o w) := by
  rcases ho with ⟨rfl, rfl⟩ | ⟨a, rfl, ha⟩
  · exact itemOf_none A B n c m d w
  · obtain ⟨h1, h2, h3, h4⟩ := at_node hok hR hU ha
    exact itemOf_some A B n c m d ns z a w h1 h2 h3 h4 h
/-- A call that fails with an item of nothing. -/
def ItemE (k : Int) (w : World) (e : Ending) (w' : World) : Prop := e = .returned (.tuple #[.agg #[.int .i64 0, .int .i64 0], .int .i64 k]) ∧ Ext w w'
def IntE (q k : Int) (w : World) (e : Ending) (w' : World) : Prop := e = .returned (.tuple #[.int .i64 q, .int .i64 k]) ∧ Ext w w'

set_option maxHeartbeats 2000000 in
theorem orCeil_arg (A B : Option Addr) (n m c d : Nat) (ns : List Nd) (fs : List Int) (r q : Int) (w : World) (h : Ar w A n B m ns fs) (hn : n ≤ 1000) (hm : m ≤ 1000) (hU : U r) (hno : ¬ (ArMay ns fs ∧ MapAt ns r)) :
    Calls Try.prog 28 #[.agg #[.slice A n c, .slice B m d], .int .u64 r, .int .i64 q] w (ItemE 1 w) := by
  obtain ⟨w1, hw1⟩ : ∃ w1, w1 = w.alloc (.cells #[.slice A n c, .slice B m d] 25) := ⟨_, rfl⟩
  obtain ⟨w2, hw2⟩ : ∃ w2, w2 = w1.alloc (.cells #[.int .i64 q] 2) := ⟨_, rfl⟩
  obtain ⟨w3, hw3⟩ : ∃ w3, w3 = w2.alloc (.cells #[.int .i64 0, .int .i64 0] 40) := ⟨_, rfl⟩
  obtain ⟨B1, hx1, hs1⟩ := box_made hw1
  obtain ⟨B2, hx2, hs2⟩ := box_made hw2
  rw [hs1] at B2
  obtain ⟨B3, hx3, hs3⟩ := box_made hw3
  rw [hs2, hs1] at B3
  have HB3 := Lib.hid B3
  have H3 := Lib.hid hw3
  have X3 := Lib.hid (hx1.step (hx2.step hx3))
  have HB1 := Lib.hid (B1.to (hx2.step hx3))
  have HB2 := Lib.hid (B2.to hx3)
  have H1 := Lib.hid hw1
  have H2 := Lib.hid hw2
  have HA := Lib.hid (h.to X3.out)
  have k0 : w3.cell? ⟨w.heap.size, 0, none⟩ = some (.slice A n c) := HB1.out.cell 0
  have k1 : w3.cell? ⟨w.heap.size, 1, none⟩ = some (.slice B m d) := HB1.out.cell 1
  have HR := Lib.hid (trRight_is A B n m c d ns fs r w3 HA.out hn hm hU false (by simp [hno]))
  clear hw1 hw2 hw3 B1 B2 hx1 hx2 hs1 hs2 h B3 hx3 hs3 hno
  go_enter Try.func28, Try.ntmps28
  go_wp2_with fail
  rw [← H1.out, ← H2.out, ← H3.out]
  go_wp2_with fail
  refine HR.out.mono ?_; rintro e w4 ⟨rfl, hx4⟩
  have X4 := Lib.hid (X3.out.step hx4)
  have b4 := HB3.out.to hx4
  have HB4 := Lib.hid b4
  have f0 := b4.free 0
  have f1 := b4.free 1
  have g0 := b4.cell 0
  have g1 := b4.cell 1
  simp only [List.getElem?_toArray, List.getElem?_cons_zero, List.getElem?_cons_succ] at g0 g1
  clear hx4 b4
  go_wp2_with fail
  exact bodyPost_ret (results_it2 rfl _ _ (w.heap.size + 1 + 1) #[.int .i64 0, .int .i64 0] (by rfl) (HB4.out.two _ _) rfl) rfl ⟨rfl, (Only.two _ _ _ _).new X4.out (by omega)⟩

set_option maxHeartbeats 2000000 in
theorem orCeil_is (A B : Option Addr) (n m c d : Nat) (ns : List Nd) (fs : List Int) (t : T) (q : Int) (w : World) (h : Ar w A n B m ns fs) (hn : n ≤ 1000) (hm : m ≤ 1000) (hU : U t.ref) (hmay : ArMay ns fs) (hM : Mp ns t) :
    Calls Try.prog 28 #[.agg #[.slice A n c, .slice B m d], .int .u64 t.ref, .int .i64 q] w (ItemA t.row[(lo t.row q).length]? w) := by
  obtain ⟨w1, hw1⟩ : ∃ w1, w1 = w.alloc (.cells #[.slice A n c, .slice B m d] 25) := ⟨_, rfl⟩
  obtain ⟨w2, hw2⟩ : ∃ w2, w2 = w1.alloc (.cells #[.int .i64 q] 2) := ⟨_, rfl⟩
  obtain ⟨w3, hw3⟩ : ∃ w3, w3 = w2.alloc (.cells #[.int .i64 0, .int .i64 0] 40) := ⟨_, rfl⟩
  obtain ⟨B1, hx1, hs1⟩ := box_made hw1
  obtain ⟨B2, hx2, hs2⟩ := box_made hw2
  rw [hs1] at B2
  obtain ⟨B3, hx3, hs3⟩ := box_made hw3
  rw [hs2, hs1] at B3
  have HB3 := Lib.hid B3
  have H3 := Lib.hid hw3
  have X3 := Lib.hid (hx1.step (hx2.step hx3))
  have HB1 := Lib.hid (B1.to (hx2.step hx3))
  have HB2 := Lib.hid (B2.to hx3)
  have H1 := Lib.hid hw1
  have H2 := Lib.hid hw2
  have HA := Lib.hid (h.to X3.out)
  have k0 : w3.cell? ⟨w.heap.size, 0, none⟩ = some (.slice A n c) := HB1.out.cell 0
  have k1 : w3.cell? ⟨w.heap.size, 1, none⟩ = some (.slice B m d) := HB1.out.cell 1
  have HR := Lib.hid (trRight_is A B n m c d ns fs t.ref w3 HA.out hn hm hU true (by simp only [true_iff]; exact ⟨hmay, t, hM, rfl⟩))
  have HD := Lib.hid (fun W (hW : Ext w3 W) => down_is 50 (w.heap.size + 1) (.int .i64 q) (fun k _ => decide (q ≤ k)) A B n c m d ns t W hM.rep hM.le hU (HA.out.to hW).nodes (HA.out.to hW).ok cfCeil (HB2.out.to hW) (fun k p W hB => clCeil_is _ q k p W hB))
  obtain ⟨j, hc, hj1, hj2, hj3⟩ := dn_is (fun k _ => decide (q ≤ k)) t 0 0 0 (mono_ge hM.srt q)
  have HO := Lib.hid (show (t.row[j]? = none ∧ (dn (fun k _ => decide (q ≤ k)) t 0 0 0).2.2 = 0) ∨ ∃ a, t.row[j]? = some a ∧ t.At (dn (fun k _ => decide (q ≤ k)) t 0 0 0).2.2 a from by
    rcases hj3 with ⟨e, h⟩ | ⟨a, h1, h2⟩
    · exact .inl ⟨by rw [e]; simp, h⟩
    · exact .inr ⟨a, h1, h2⟩)
  rw [cut_lo hc, List.length_take, Nat.min_eq_left hc.le]
  generalize t.row[j]? = oo at *
  obtain ⟨D, hD⟩ : ∃ D, D = dn (fun k _ => decide (q ≤ k)) t 0 0 0 := ⟨_, rfl⟩
  rw [← hD] at HD HO
  obtain ⟨D1, D2, D3⟩ := D
  unfold DownA at HD
  simp only at HD HO
  have HIt := Lib.hid (fun W (hW : Ext w3 W) => item_of A B n c m d ns t D3 oo W hM.rep hU (HA.out.to hW).nodes (HA.out.to hW).ok HO.out)
  clear hD HO
  clear hw1 hw2 hw3 B1 B2 hx1 hx2 hs1 hs2 h B3 hx3 hs3 hmay hM hc hj1 hj2 hj3
  generalize t.ref = r at *
  have hmf : ∀ (fn : Fn) (first cap : Array Value) (w : World), (Instr.makeFunc fn first cap).run Try.prog w = .ok (.func fn first cap) w := fun fn first cap w => rfl
  go_enter Try.func28, Try.ntmps28
  go_wp2_with fail
  rw [← H1.out, ← H2.out, ← H3.out]
  go_wp2_with fail
  refine HR.out.mono ?_; rintro e w4 ⟨rfl, hx4⟩
  have X4 := Lib.hid hx4
  have k0 : w4.cell? ⟨w.heap.size, 0, none⟩ = some (.slice A n c) := (HB1.out.to hx4).cell 0
  have k1 : w4.cell? ⟨w.heap.size, 1, none⟩ = some (.slice B m d) := (HB1.out.to hx4).cell 1
  clear hx4
  go_wp2_with fail
  refine (HD.out _ X4.out).mono ?_; rintro e w5 ⟨rfl, hx5⟩
  obtain ⟨w6, hw6⟩ : ∃ w6, w6 = w5.alloc (.cells #[.int .i64 D1, .int .u64 D2, .int .u64 D3] 89) := ⟨_, rfl⟩
  obtain ⟨B6, hx6, hs6⟩ := box_made hw6
  have X6 := Lib.hid (X4.out.step (hx5.step hx6))
  have H6 := Lib.hid hw6
  have e1 : w6.cell? ⟨w5.heap.size, 2, none⟩ = some (.int .u64 D3) := B6.cell 2
  have k0 : w6.cell? ⟨w.heap.size, 0, none⟩ = some (.slice A n c) := (HB1.out.to X6.out).cell 0
  have k1 : w6.cell? ⟨w.heap.size, 1, none⟩ = some (.slice B m d) := (HB1.out.to X6.out).cell 1
  rw [hw6] at e1 k0 k1
  clear hw6 B6 hx6 hs6 hx5
  go_wp2_with fail
  rw [← H6.out]
  refine (HIt.out _ X6.out).mono ?_; rintro e w7 ⟨rfl, hx7⟩
  have b7 := HB3.out.to (X6.out.step hx7)
  have HB7 := Lib.hid b7
  have X7 := Lib.hid (X3.out.step (X6.out.step hx7))
  have f0 := b7.free 0
  have f1 := b7.free 1
  have g0 := b7.cell 0
  have g1 := b7.cell 1
  simp only [List.getElem?_toArray, List.getElem?_cons_zero, List.getElem?_cons_succ] at g0 g1
  clear hx7 b7
  rcases oo with _ | ⟨a1, a2⟩
  · unfold itV
    go_wp2_with fail
    exact bodyPost_ret (results_it2 rfl _ _ (w.heap.size + 1 + 1) #[.int .i64 0, .int .i64 0] (by rfl) (HB7.out.two _ _) rfl) rfl ⟨rfl, (Only.two _ _ _ _).new X7.out (by omega)⟩
  · unfold itV
    go_wp2_with fail
    exact bodyPost_ret (results_it2 rfl _ _ (w.heap.size + 1 + 1) #[.int .i64 a1, .int .i64 a2] (by rfl) (HB7.out.two _ _) rfl) rfl ⟨rfl, (Only.two _ _ _ _).new X7.out (by omega)⟩

end Go.Proofs.Ythgaogbpkedjcaa

/-
  Two items compared; contract: the second one of three (alive of the statements of layer 7).
-/
set_option linter.unusedVariables false
set_option linter.unusedSimpArgs false
namespace Go.Proofs.Ythgaogbpkedjcaa
open Go.RowKit

theorem part_it {w : World} (cs : Array Value) (j : Nat) (v : Value) (hv : cs[j]? = some v) : (part 2 cs j).run Try.prog w = .ok v w := by
  simp [part, isAgg, run_underlying Try.underlying2, hv]
theorem it_eq (a b c d : Int) (w : World) : (Op.equalIn 10000 40 (.agg #[.int .i64 a, .int .i64 b]) (.agg #[.int .i64 c, .int .i64 d])).run Try.prog w = .ok (decide (a = c ∧ b = d)) w := by
  have hu := Try.underlying40
  rw [show (10000 : Nat) = 9999 + 1 from rfl, run_equalIn_struct w 9999 40 _ _ (by kernel_rfl) (by kernel_rfl)]
  unfold Program.fieldsOf
  rw [hu]
  dsimp only
  have e : decide (a = c ∧ b = d) = (a == c && (b == d && true)) := by
    rw [Bool.eq_iff_iff]
    simp
  rw [e]
  refine eqFields_step (ty := 2) (o := 0) (part_it _ 0 _ rfl) (part_it _ 0 _ rfl) (run_equalIn_int w 9998 2 .i64 .i64 _ _ Try.underlying2) (by decide) rfl rfl ?_
  refine eqFields_step (ty := 2) (o := 1) (part_it _ 1 _ rfl) (part_it _ 1 _ rfl) (run_equalIn_int w 9998 2 .i64 .i64 _ _ Try.underlying2) (by decide) rfl rfl ?_
  simp [Op.eqFields]
theorem it_same (a b : Int) (w : World) : (Op.equalIn 10000 40 (.agg #[.int .i64 a, .int .i64 b]) (.agg #[.int .i64 a, .int .i64 b])).run Try.prog w = .ok true w := by
  rw [it_eq]; simp

end Go.Proofs.Ythgaogbpkedjcaa

/-
  What an item says; how many keys are below one, and up to one.
-/
set_option linter.unusedVariables false
set_option linter.unusedSimpArgs false
namespace Go.Proofs.Ythgaogbpkedjcaa
open Go.RowKit

/-- A key's item, or nothing, and the error beside it. -/
def itF : Option (Int × Int) → Int × Int × Int
  | none => (0, 0, 3)
  | some x => (x.1, x.2, 0)
theorem itV_eq (o : Option (Int × Int)) : itV o = #[.agg #[.int .i64 (itF o).1, .int .i64 (itF o).2.1], .int .i64 (itF o).2.2] := by cases o <;> rfl
/-- What an item says: nothing, or one of a row. -/
def Says (o : Option (Int × Int)) (a b k : Int) : Prop := (o = none ∧ a = 0 ∧ b = 0 ∧ k = 3) ∨ (o = some (a, b) ∧ k = 0)
theorem says_it (o : Option (Int × Int)) : ∃ a b k, itV o = #[.agg #[.int .i64 a, .int .i64 b], .int .i64 k] ∧ Says o a b k := by
  cases o with
  | none => exact ⟨0, 0, 3, rfl, .inl ⟨rfl, rfl, rfl, rfl⟩⟩
  | some x => exact ⟨x.1, x.2, 0, rfl, .inr ⟨rfl, rfl⟩⟩
def ItemS (o : Option (Int × Int)) (w : World) (e : Ending) (w' : World) : Prop := ∃ a b k, e = .returned (.tuple #[.agg #[.int .i64 a, .int .i64 b], .int .i64 k]) ∧ Says o a b k ∧ Ext w w'
theorem ItemA.says {o : Option (Int × Int)} {w : World} {e : Ending} {w' : World} (h : ItemA o w e w') : ItemS o w e w' := by
  obtain ⟨h1, h2⟩ := h
  obtain ⟨a, b, k, e1, h3⟩ := says_it o
  exact ⟨a, b, k, by rw [h1, e1], h3, h2⟩
theorem ItemE.says {w : World} {e : Ending} {w' : World} (h : ItemE 3 w e w') : ItemS none w e w' := ⟨0, 0, 3, h.1, .inl ⟨rfl, rfl, rfl, rfl⟩, h.2⟩
/-- The item of a place. -/
def atR (l : Row) (q : Int) : Option (Int × Int) := if q < 0 then none else l[q.toNat]?
theorem lo_take {l : Row} (hs : Srt l) (key : Int) : ∃ q, q ≤ l.length ∧ lo l key = l.take q ∧ (∀ (i : Nat) (a : Int × Int), i < q → l[i]? = some a → a.1 < key) ∧ ∀ (i : Nat) (a : Int × Int), q ≤ i → l[i]? = some a → key ≤ a.1 := by
  have e := lo_ge hs key
  refine ⟨(lo l key).length, List.length_filter_le _ _, ?_, fun i a hi ha => ?_, fun i a hi ha => ?_⟩
  · have h : l.take (lo l key).length = (lo l key ++ ge l key).take (lo l key).length := by rw [e]
    rw [h, List.take_left]
  · rw [← e, List.getElem?_append_left hi] at ha
    exact (mem_lo.1 (List.mem_of_getElem? ha)).2
  · rw [← e, List.getElem?_append_right hi] at ha
    exact (mem_ge.1 (List.mem_of_getElem? ha)).2
/-- How many keys are up to one. -/
theorem upto_len {l : Row} (hs : Srt l) (key : Int) : (∃ v, l[(lo l key).length]? = some (key, v) ∧ (upto l key).length = (lo l key).length + 1) ∨ ((∀ v, l[(lo l key).length]? ≠ some (key, v)) ∧ (upto l key).length = (lo l key).length) := by
  obtain ⟨q, hq, e, h1, h2⟩ := lo_take hs key
  have hlen : (lo l key).length = q := by rw [e, List.length_take]; omega
  rw [hlen]
  cases hx : l[q]? with
  | none =>
    have hql : l.length ≤ q := by
      by_cases hh : l.length ≤ q
      · exact hh
      · rw [List.getElem?_eq_getElem (by omega)] at hx; cases hx
    refine .inr ⟨fun v h => (by cases h), ?_⟩
    have : upto l key = l.take q := cut_filter _ hq (fun i a hi ha => by have := h1 i a hi ha; simp; omega) (fun i a hi ha => by have := (List.getElem?_eq_some_iff.1 ha).1; omega)
    rw [this, List.length_take]; omega
  | some x =>
    have hql := (List.getElem?_eq_some_iff.1 hx).1
    by_cases hk : x.1 = key
    · refine .inl ⟨x.2, by rw [← hk], ?_⟩
      have : upto l key = l.take (q + 1) := cut_filter _ (by omega) (fun i a hi ha => by
        rcases Nat.lt_or_eq_of_le (show i ≤ q by omega) with h | h
        · have := h1 i a h ha; simp; omega
        · subst h
          rw [hx] at ha; injection ha with ha; subst ha; simp; omega) (fun i a hi ha => by have := srt_get hs hx ha (by omega); simp; omega)
      rw [this, List.length_take]; omega
    · refine .inr ⟨fun v h => hk (by injection h with h; rw [h]), ?_⟩
      have : upto l key = l.take q := cut_filter _ hq (fun i a hi ha => by have := h1 i a hi ha; simp; omega) (fun i a hi ha => by
        have h3 := h2 q x (Nat.le_refl _) hx
        rcases Nat.lt_or_eq_of_le hi with h | h
        · have := srt_get hs hx ha h; simp; omega
        · subst h
          rw [hx] at ha; injection ha with ha; subst ha; simp; omega)
      rw [this, List.length_take]; omega


end Go.Proofs.Ythgaogbpkedjcaa

/-
  Places in a map told by its row: the calls' contracts in these words.
-/
set_option linter.unusedVariables false
set_option linter.unusedSimpArgs false
namespace Go.Proofs.Ythgaogbpkedjcaa
open Go.RowKit

section
variable {W : World} {A B : Option Addr} {n m c d : Nat} {ns : List Nd} {fs : List Int} {z : Int} {l : Row}
theorem av_ceil (h : Av W A n B m ns fs) (hM : MapV ns z l) (key : Int) : ∀ W', Ext W W' → Calls Try.prog 28 #[.agg #[.slice A n c, .slice B m d], .int .u64 z, .int .i64 key] W' (ItemS l[(lo l key).length]? W') := by
  intro W' hx
  obtain ⟨t, h1, rfl, rfl, hU⟩ := hM
  exact (orCeil_is A B n m c d ns fs t key W' (h.to hx).ar h.n1 h.m1 hU h.may h1).mono fun e w' h => h.says
end

theorem lo_same {l : Row} {a b : Row} {k v u q : Int} : (lo (a ++ (k, u) :: b) q).length = (lo (a ++ (k, v) :: b) q).length := by
  simp only [lo, List.filter_append, List.filter_cons, List.length_append]
  split <;> simp
/-- What a key that is put does to places. -/
theorem lo_put {l : Row} (h : Srt l) (k v q : Int) : (HasK l k ∧ (putR l k v).length = l.length ∧ (lo (putR l k v) q).length = (lo l q).length) ∨ (¬ HasK l k ∧ (putR l k v).length = l.length + 1 ∧ ((k < q ∧ (lo (putR l k v) q).length = (lo l q).length + 1) ∨ (q ≤ k ∧ (lo (putR l k v) q).length = (lo l q).length))) := by
  by_cases hk : HasK l k
  · refine .inl ⟨hk, ?_⟩
    obtain ⟨u, hu⟩ := hk
    obtain ⟨a, b, rfl⟩ := List.append_of_mem hu
    rw [put_here h]
    exact ⟨by simp, lo_same (l := []) (v := u) (u := v)⟩
  · refine .inr ⟨hk, put_len h hk, ?_⟩
    have e1 : (lo (putR l k v) q).length = (lo (lo l k) q).length + (lo [(k, v)] q).length + (lo (ge l k) q).length := by
      rw [put_new h hk]
      simp only [lo, List.filter_append, List.filter_cons, List.length_append, List.filter_nil]
      split <;> simp <;> omega
    have e2 : (lo l q).length = (lo (lo l k) q).length + (lo (ge l k) q).length := by
      conv => lhs; rw [← lo_ge h k]
      simp only [lo, List.filter_append, List.length_append]
    by_cases hq : k < q
    · exact .inl ⟨hq, by rw [e1, e2]; simp [lo, hq]; omega⟩
    · exact .inr ⟨by omega, by rw [e1, e2]; simp [lo, hq]⟩

end Go.Proofs.Ythgaogbpkedjcaa
