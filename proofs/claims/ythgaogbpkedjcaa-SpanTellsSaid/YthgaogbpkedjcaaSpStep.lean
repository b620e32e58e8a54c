/-
  Contract of package span: Step.
-/
import Derived.Test.YthgaogbpkedjcaaSpAll
set_option linter.unusedVariables false
set_option linter.unusedSimpArgs false
namespace Go.Proofs.Ythgaogbpkedjcaa
open Go.RowKit

/-- What Step answers. -/
def StepA (z a b : Int) (q : Bool) (x y k : Int) (w : World) (e : Ending) (w' : World) : Prop := e = .returned (.tuple #[cuv z a b q, .agg #[.int .i64 x, .int .i64 y], .int .i64 k]) ∧ Ext w w'
/-- What a cursor that is not done answers, of the next key. -/
def StepO (o : Option (Int × Int)) (z a b : Int) (w : World) (e : Ending) (w' : World) : Prop :=
  match o with
  | none => StepA z a b true 0 0 0 w e w'
  | some x => if b < x.1 then StepA z a b true 0 0 0 w e w' else if x.1 = b then StepA z a b true x.1 x.2 0 w e w' else StepA z (x.1 + 1) b false x.1 x.2 0 w e w'

/-- The boxes that Step begins with. -/
structure Stp (w W : World) (A B : Option Addr) (n m c d : Nat) (z a b : Int) (q : Bool) : Prop where
  ext : Ext w W
  size : w.heap.size + 4 ≤ W.heap.size
  ar : Bx W w.heap.size #[.slice A n c, .slice B m d]
  cu : Bx W (w.heap.size + 1) #[.int .u64 z, .int .i64 a, .int .i64 b, .bool q]
  rc : Bx W (w.heap.size + 1 + 1) #[.int .u64 0, .int .i64 0, .int .i64 0, .bool false]
  ri : Bx W (w.heap.size + 1 + 1 + 1) #[.int .i64 0, .int .i64 0]
theorem Stp.to {w W W' : World} {A B : Option Addr} {n m c d : Nat} {z a b : Int} {q : Bool} (h : Stp w W A B n m c d z a b q) (hx : Ext W W') : Stp w W' A B n m c d z a b q :=
  ⟨h.ext.step hx, Nat.le_trans h.size hx.size, h.ar.to hx, h.cu.to hx, h.rc.to hx, h.ri.to hx⟩
theorem stp_made {w w1 w2 w3 w4 : World} {A B : Option Addr} {n m c d : Nat} {z a b : Int} {q : Bool} (hw1 : w1 = w.alloc (.cells #[.slice A n c, .slice B m d] 25)) (hw2 : w2 = w1.alloc (.cells #[.int .u64 z, .int .i64 a, .int .i64 b, .bool q] 29))
    (hw3 : w3 = w2.alloc (.cells #[.int .u64 0, .int .i64 0, .int .i64 0, .bool false] 29)) (hw4 : w4 = w3.alloc (.cells #[.int .i64 0, .int .i64 0] 40)) : Stp w w4 A B n m c d z a b q := by
  obtain ⟨B1, hx1, hs1⟩ := box_made hw1
  obtain ⟨B2, hx2, hs2⟩ := box_made hw2
  obtain ⟨B3, hx3, hs3⟩ := box_made hw3
  obtain ⟨B4, hx4, hs4⟩ := box_made hw4
  exact ⟨hx1.step (hx2.step (hx3.step hx4)), by omega, B1.to (hx2.step (hx3.step hx4)), by rw [← hs1]; exact B2.to (hx3.step hx4), by rw [← hs1, ← hs2]; exact B3.to hx4, by rw [← hs1, ← hs2, ← hs3]; exact B4⟩

theorem Stp.done {w W : World} {A B : Option Addr} {n m c d : Nat} {z a b : Int} {q : Bool} (h : Stp w W A B n m c d z a b q) (q' : Bool) : Stp w (W.setCell ⟨w.heap.size + 1, 3, none⟩ (.bool q')) A B n m c d z a b q' := by
  have o := (Only.refl (w.heap.size + 1) W).set 3 (.bool q')
  have hs := h.size
  exact ⟨o.new h.ext (by omega), Nat.le_trans h.size o.size, o.bx h.ar (by omega), h.cu.set (j := 3) (by simp) _, o.bx h.rc (by omega), o.bx h.ri (by omega)⟩
theorem Stp.next {w W : World} {A B : Option Addr} {n m c d : Nat} {z a b : Int} {q : Bool} (h : Stp w W A B n m c d z a b q) (a' : Int) : Stp w (W.setCell ⟨w.heap.size + 1, 1, none⟩ (.int .i64 a')) A B n m c d z a' b q := by
  have o := (Only.refl (w.heap.size + 1) W).set 1 (.int .i64 a')
  have hs := h.size
  exact ⟨o.new h.ext (by omega), Nat.le_trans h.size o.size, o.bx h.ar (by omega), h.cu.set (j := 1) (by simp) _, o.bx h.rc (by omega), o.bx h.ri (by omega)⟩
theorem Stp.drew {w W : World} {A B : Option Addr} {n m c d : Nat} {z a b : Int} {q : Bool} (h : Stp w W A B n m c d z a b q) : Stp w W.drew A B n m c d z a b q :=
  ⟨h.ext.drew, h.size, h.ar.drew, h.cu.drew, h.rc.drew, h.ri.drew⟩
/-- Behind the last stores of what is answered. -/
theorem Stp.fin {w W : World} {A B : Option Addr} {n m c d : Nat} {z a b : Int} {q : Bool} (h : Stp w W A B n m c d z a b q) (p0 p1 p2 p3 x y : Value) :
    Bx ((((((W.setCell ⟨w.heap.size + 1 + 1, 0, none⟩ p0).setCell ⟨w.heap.size + 1 + 1, 1, none⟩ p1).setCell ⟨w.heap.size + 1 + 1, 2, none⟩ p2).setCell ⟨w.heap.size + 1 + 1, 3, none⟩ p3).setCell ⟨w.heap.size + 1 + 1 + 1, 0, none⟩ x).setCell ⟨w.heap.size + 1 + 1 + 1, 1, none⟩ y) (w.heap.size + 1 + 1) #[p0, p1, p2, p3] ∧
    Bx ((((((W.setCell ⟨w.heap.size + 1 + 1, 0, none⟩ p0).setCell ⟨w.heap.size + 1 + 1, 1, none⟩ p1).setCell ⟨w.heap.size + 1 + 1, 2, none⟩ p2).setCell ⟨w.heap.size + 1 + 1, 3, none⟩ p3).setCell ⟨w.heap.size + 1 + 1 + 1, 0, none⟩ x).setCell ⟨w.heap.size + 1 + 1 + 1, 1, none⟩ y) (w.heap.size + 1 + 1 + 1) #[x, y] ∧
    Ext w ((((((W.setCell ⟨w.heap.size + 1 + 1, 0, none⟩ p0).setCell ⟨w.heap.size + 1 + 1, 1, none⟩ p1).setCell ⟨w.heap.size + 1 + 1, 2, none⟩ p2).setCell ⟨w.heap.size + 1 + 1, 3, none⟩ p3).setCell ⟨w.heap.size + 1 + 1 + 1, 0, none⟩ x).setCell ⟨w.heap.size + 1 + 1 + 1, 1, none⟩ y) := by
  have o1 := Only.four W (w.heap.size + 1 + 1) p0 p1 p2 p3
  have o2 := Only.two ((((W.setCell ⟨w.heap.size + 1 + 1, 0, none⟩ p0).setCell ⟨w.heap.size + 1 + 1, 1, none⟩ p1).setCell ⟨w.heap.size + 1 + 1, 2, none⟩ p2).setCell ⟨w.heap.size + 1 + 1, 3, none⟩ p3) (w.heap.size + 1 + 1 + 1) x y
  exact ⟨o2.bx (h.rc.four _ _ _ _) (by omega), (o1.bx h.ri (by omega)).two _ _, o2.new (o1.new h.ext (by omega)) (by omega)⟩

set_option maxHeartbeats 2000000 in
set_option maxRecDepth 100000 in
/-- No map, or done. -/
theorem step_no (A B : Option Addr) (n m c d : Nat) (ns : List Nd) (fs : List Int) (z a b : Int) (q : Bool) (w : World) (h : Ar w A n B m ns fs) (hn : n ≤ 1000) (hm : m ≤ 1000) (hU : U z) (t : Bool) (ht : t = true ↔ ArMay ns fs ∧ MapAt ns z) (k : Int) (hk : (t = false ∧ k = 1) ∨ (t = true ∧ q = true ∧ k = 3)) :
    Calls Try.prog 13 #[.agg #[.slice A n c, .slice B m d], cuv z a b q] w (StepA 0 0 0 false 0 0 k w) := by
  obtain ⟨w1, hw1⟩ : ∃ w1, w1 = w.alloc (.cells #[.slice A n c, .slice B m d] 25) := ⟨_, rfl⟩
  obtain ⟨w2, hw2⟩ : ∃ w2, w2 = w1.alloc (.cells #[.int .u64 z, .int .i64 a, .int .i64 b, .bool q] 29) := ⟨_, rfl⟩
  obtain ⟨w3, hw3⟩ : ∃ w3, w3 = w2.alloc (.cells #[.int .u64 0, .int .i64 0, .int .i64 0, .bool false] 29) := ⟨_, rfl⟩
  obtain ⟨w4, hw4⟩ : ∃ w4, w4 = w3.alloc (.cells #[.int .i64 0, .int .i64 0] 40) := ⟨_, rfl⟩
  have HS := Lib.hid (stp_made hw1 hw2 hw3 hw4)
  have HR := Lib.hid (trRight_is A B n m c d ns fs z w4 (h.to HS.out.ext) hn hm hU t ht)
  have H1 := Lib.hid hw1
  have H2 := Lib.hid hw2
  have H3 := Lib.hid hw3
  have H4 := Lib.hid hw4
  have k0 : w4.cell? ⟨w.heap.size, 0, none⟩ = some (.slice A n c) := HS.out.ar.cell 0
  have k1 : w4.cell? ⟨w.heap.size, 1, none⟩ = some (.slice B m d) := HS.out.ar.cell 1
  have k2 : w4.cell? ⟨w.heap.size + 1, 0, none⟩ = some (.int .u64 z) := HS.out.cu.cell 0
  have HQ := Lib.hid hk
  clear hw1 hw2 hw3 hw4 h ht hk
  go_enter Try.func13, Try.ntmps13
  go_wp2_with fail
  rw [← H1.out, ← H2.out, ← H3.out, ← H4.out]
  go_wp2_with fail
  refine HR.out.mono ?_; rintro e w5 ⟨rfl, hx5⟩
  have HS5 := Lib.hid (HS.out.to hx5)
  have b5 := HS5.out.rc
  have i5 := HS5.out.ri
  have f0 := b5.free 0
  have f1 := b5.free 1
  have f2 := b5.free 2
  have f3 := b5.free 3
  have g0 := b5.cell 0
  have g1 := b5.cell 1
  have g2 := b5.cell 2
  have g3 := b5.cell 3
  have e0 := i5.free 0
  have e1 := i5.free 1
  have d0 := i5.cell 0
  have d1 := i5.cell 1
  have k3 : w5.cell? ⟨w.heap.size + 1, 3, none⟩ = some (.bool q) := HS5.out.cu.cell 3
  simp only [List.getElem?_toArray, List.getElem?_cons_zero, List.getElem?_cons_succ] at g0 g1 g2 g3 d0 d1
  clear hx5 b5 i5 k0 k1 k2
  have HF := Lib.hid (HS5.out.fin (.int .u64 0) (.int .i64 0) (.int .i64 0) (.bool false) (.int .i64 0) (.int .i64 0))
  rcases HQ.out with ⟨rfl, rfl⟩ | ⟨rfl, rfl, rfl⟩
  · clear HQ
    go_wp2_with fail
    obtain ⟨h1, h2, h3⟩ := HF.out
    exact bodyPost_ret (results_cu3 rfl _ _ (w.heap.size + 1 + 1) (w.heap.size + 1 + 1 + 1) _ _ (by rfl) h1 rfl (by rfl) h2 rfl) rfl ⟨rfl, h3⟩
  · clear HQ
    go_wp2_with fail
    obtain ⟨h1, h2, h3⟩ := HF.out
    exact bodyPost_ret (results_cu3 rfl _ _ (w.heap.size + 1 + 1) (w.heap.size + 1 + 1 + 1) _ _ (by rfl) h1 rfl (by rfl) h2 rfl) rfl ⟨rfl, h3⟩

set_option maxHeartbeats 4000000 in
set_option maxRecDepth 100000 in
theorem step_is (A B : Option Addr) (n m c d : Nat) (ns : List Nd) (fs : List Int) (z a b : Int) (l : Row) (w : World) (h : Av w A n B m ns fs) (hM : MapV ns z l) (ha : -9223372036854775808 ≤ a) (hb : b ≤ 9223372036854775807) :
    Calls Try.prog 13 #[.agg #[.slice A n c, .slice B m d], cuv z a b false] w (StepO l[(lo l a).length]? z a b w) := by
  obtain ⟨w1, hw1⟩ : ∃ w1, w1 = w.alloc (.cells #[.slice A n c, .slice B m d] 25) := ⟨_, rfl⟩
  obtain ⟨w2, hw2⟩ : ∃ w2, w2 = w1.alloc (.cells #[.int .u64 z, .int .i64 a, .int .i64 b, .bool false] 29) := ⟨_, rfl⟩
  obtain ⟨w3, hw3⟩ : ∃ w3, w3 = w2.alloc (.cells #[.int .u64 0, .int .i64 0, .int .i64 0, .bool false] 29) := ⟨_, rfl⟩
  obtain ⟨w4, hw4⟩ : ∃ w4, w4 = w3.alloc (.cells #[.int .i64 0, .int .i64 0] 40) := ⟨_, rfl⟩
  have HS := Lib.hid (stp_made hw1 hw2 hw3 hw4)
  have HR := Lib.hid (show Calls Try.prog 23 #[.agg #[.slice A n c, .slice B m d], .int .u64 z] w4 (fun e w' => e = .returned (.bool true) ∧ Ext w4 w') from by
    obtain ⟨t, h1, h2, _, h3⟩ := hM
    exact trRight_is A B n m c d ns fs z w4 (h.ar.to HS.out.ext) h.n1 h.m1 h3 true (by simp only [true_iff]; exact ⟨h.may, t, h1, h2⟩))
  have HC := Lib.hid (av_ceil (c := c) (d := d) h hM a)
  have hxa : ∀ x, l[(lo l a).length]? = some x → -9223372036854775808 ≤ x.1 := fun x hx => by
    obtain ⟨q, hq, e, h1, h2⟩ := lo_take hM.srt a
    have hlen : (lo l a).length = q := by rw [e, List.length_take]; omega
    rw [hlen] at hx
    have := h2 q x (Nat.le_refl _) hx
    omega
  generalize l[(lo l a).length]? = o at *
  have HXA := Lib.hid hxa
  have HBB := Lib.hid hb
  clear hxa hb ha
  unfold ItemS at HC
  have H1 := Lib.hid hw1
  have H2 := Lib.hid hw2
  have H3 := Lib.hid hw3
  have H4 := Lib.hid hw4
  have k0 : w4.cell? ⟨w.heap.size, 0, none⟩ = some (.slice A n c) := HS.out.ar.cell 0
  have k1 : w4.cell? ⟨w.heap.size, 1, none⟩ = some (.slice B m d) := HS.out.ar.cell 1
  have k2 : w4.cell? ⟨w.heap.size + 1, 0, none⟩ = some (.int .u64 z) := HS.out.cu.cell 0
  obtain ⟨R, hR⟩ : ∃ R, R = StepO o z a b w := ⟨_, rfl⟩
  rw [← hR]
  have HRR := Lib.hid hR
  clear hw1 hw2 hw3 hw4 h hM hR
  go_enter Try.func13, Try.ntmps13
  go_wp2_with fail
  rw [← H1.out, ← H2.out, ← H3.out, ← H4.out]
  go_wp2_with fail
  refine HR.out.mono ?_; rintro e w5 ⟨rfl, hx5⟩
  have HS5 := Lib.hid (HS.out.to hx5)
  have k0 : w5.cell? ⟨w.heap.size, 0, none⟩ = some (.slice A n c) := HS5.out.ar.cell 0
  have k1 : w5.cell? ⟨w.heap.size, 1, none⟩ = some (.slice B m d) := HS5.out.ar.cell 1
  have k2 : w5.cell? ⟨w.heap.size + 1, 0, none⟩ = some (.int .u64 z) := HS5.out.cu.cell 0
  have k4 : w5.cell? ⟨w.heap.size + 1, 1, none⟩ = some (.int .i64 a) := HS5.out.cu.cell 1
  have k3 : w5.cell? ⟨w.heap.size + 1, 3, none⟩ = some (.bool false) := HS5.out.cu.cell 3
  clear hx5
  go_wp2_with fail
  refine (HC.out w5 HS5.out.ext).mono ?_
  rintro e w6 ⟨x, y, k, rfl, hs, hx6⟩
  obtain ⟨w7, hw7⟩ : ∃ w7, w7 = w6.alloc (.cells #[.int .i64 x, .int .i64 y] 40) := ⟨_, rfl⟩
  obtain ⟨B7, hx7, hs7⟩ := box_made hw7
  have HS7 := Lib.hid (HS5.out.to (hx6.step hx7))
  obtain ⟨bt, hbt⟩ : ∃ b, b = w6.heap.size := ⟨_, rfl⟩
  rw [← hbt] at B7
  have HB7 := Lib.hid B7
  have Hbt := Lib.hid hbt
  have H7 := Lib.hid hw7
  have HSS := Lib.hid hs
  have HLT := Lib.hid (show w.heap.size + 4 ≤ bt by rw [hbt]; exact Nat.le_trans HS5.out.size hx6.size)
  clear k0 k1 k2 k3 k4 hw7 B7 hx6 hx7 hs7 hbt hs HS HS5 HC HR
  go_upto_region 6 with fail
  rw [← H7.out, ← Hbt.out]
  have b5 := HS7.out.rc
  have i5 := HS7.out.ri
  have u5 := HS7.out.cu
  have f0 := b5.free 0
  have f1 := b5.free 1
  have f2 := b5.free 2
  have f3 := b5.free 3
  have g0 := b5.cell 0
  have g1 := b5.cell 1
  have g2 := b5.cell 2
  have g3 := b5.cell 3
  have e0 := i5.free 0
  have e1 := i5.free 1
  have d0 := i5.cell 0
  have d1 := i5.cell 1
  have u0 := u5.cell 0
  have u1 := u5.cell 1
  have u2 := u5.cell 2
  have u3 := u5.cell 3
  have v1 := u5.free 1
  have v3 := u5.free 3
  simp only [List.getElem?_toArray, List.getElem?_cons_zero, List.getElem?_cons_succ] at g0 g1 g2 g3 d0 d1 u0 u1 u2 u3
  clear b5 i5 u5
  have t0 : w7.cell? ⟨bt, 0, none⟩ = some (.int .i64 x) := HB7.out.cell 0
  have t1 : w7.cell? ⟨bt, 1, none⟩ = some (.int .i64 y) := HB7.out.cell 1
  have n1 : ¬ bt = w.heap.size + 1 := by have := HLT.out; omega
  have n2 : ¬ bt = w.heap.size + 1 + 1 := by have := HLT.out; omega
  have n3 : ¬ bt = w.heap.size + 1 + 1 + 1 := by have := HLT.out; omega
  have n4 : ¬ w.heap.size + 1 = bt := by have := HLT.out; omega
  have n5 : ¬ w.heap.size + 1 + 1 = bt := by have := HLT.out; omega
  have n6 : ¬ w.heap.size + 1 + 1 + 1 = bt := by have := HLT.out; omega
  rcases HSS.out with ⟨rfl, rfl, rfl, rfl⟩ | ⟨rfl, rfl⟩
  · have HF := Lib.hid ((HS7.out.done true).fin (.int .u64 z) (.int .i64 a) (.int .i64 b) (.bool true) (.int .i64 0) (.int .i64 0))
    have HP := Lib.hid (fun (v : Value) w' (hv : v = .int .i64 0) (h : Ext w w') => show R (.returned (.tuple #[cuv z a b true, .agg #[.int .i64 0, .int .i64 0], v])) w' by rw [hv, HRR.out]; exact ⟨rfl, h⟩)
    clear HSS HRR
    go_wp2_with fail
    obtain ⟨h1, h2, h3⟩ := HF.out
    exact bodyPost_ret (results_cu3 rfl _ _ (w.heap.size + 1 + 1) (w.heap.size + 1 + 1 + 1) _ _ (by rfl) h1 rfl (by rfl) h2 rfl) rfl (HP.out _ _ rfl h3)
  · clear HSS
    have hR0 : ∀ e w', R e w' = if b < x then StepA z a b true 0 0 0 w e w' else if x = b then StepA z a b true x y 0 w e w' else StepA z (x + 1) b false x y 0 w e w' := fun e w' => by rw [HRR.out]; rfl
    have HR0 := Lib.hid hR0
    clear HRR hR0
    by_cases h1 : b < x
    · have HF := Lib.hid ((HS7.out.done true).fin (.int .u64 z) (.int .i64 a) (.int .i64 b) (.bool true) (.int .i64 0) (.int .i64 0))
      have HP := Lib.hid (fun (v : Value) w' (hv : v = .int .i64 0) (h : Ext w w') => show R (.returned (.tuple #[cuv z a b true, .agg #[.int .i64 0, .int .i64 0], v])) w' by rw [hv, HR0.out, if_pos h1]; exact ⟨rfl, h⟩)
      go_wp2_with fail
      obtain ⟨h1, h2, h3⟩ := HF.out
      exact bodyPost_ret (results_cu3 rfl _ _ (w.heap.size + 1 + 1) (w.heap.size + 1 + 1 + 1) _ _ (by rfl) h1 rfl (by rfl) h2 rfl) rfl (HP.out _ _ rfl h3)
    · by_cases h2 : x = b
      · subst h2
        have HF := Lib.hid ((HS7.out.done true).fin (.int .u64 z) (.int .i64 a) (.int .i64 x) (.bool true) (.int .i64 x) (.int .i64 y))
        have HP := Lib.hid (fun (v : Value) w' (hv : v = .int .i64 0) (h : Ext w w') => show R (.returned (.tuple #[cuv z a x true, .agg #[.int .i64 x, .int .i64 y], v])) w' by rw [hv, HR0.out, if_neg h1, if_pos rfl]; exact ⟨rfl, h⟩)
        go_wp2_with fail
        go_region
        obtain ⟨h1, h2, h3⟩ := HF.out
        have HE := Lib.hid (show Bx _ _ _ ∧ Bx _ _ _ ∧ Ext _ _ from ⟨h1.drew, h2.drew, h3.drew⟩)
        clear h1 h2 h3
        go_wp2_with fail
        exact bodyPost_ret (results_cu3 rfl _ _ (w.heap.size + 1 + 1) (w.heap.size + 1 + 1 + 1) _ _ (by rfl) HE.out.1 rfl (by rfl) HE.out.2.1 rfl) rfl (HP.out _ _ rfl HE.out.2.2)
      · have h3 : x < b := by omega
        have hw : wrap64 (x + 1) = x + 1 := by
          have e := IntKind.wrap_i64 (x + 1)
          have h1 := HXA.out _ rfl
          have h2 := HBB.out
          simp only at h1
          unfold wrap64
          omega
        have HF := Lib.hid ((HS7.out.next (x + 1)).fin (.int .u64 z) (.int .i64 (x + 1)) (.int .i64 b) (.bool false) (.int .i64 x) (.int .i64 y))
        have HP := Lib.hid (fun (v : Value) w' (hv : v = .int .i64 0) (h : Ext w w') => show R (.returned (.tuple #[cuv z (x + 1) b false, .agg #[.int .i64 x, .int .i64 y], v])) w' by rw [hv, HR0.out, if_neg h1, if_neg h2]; exact ⟨rfl, h⟩)
        have HW := Lib.hid hw
        clear hw
        go_wp2_with fail
        go_region
        rw [HW.out]
        obtain ⟨h1, h2, h3⟩ := HF.out
        have HE := Lib.hid (show Bx _ _ _ ∧ Bx _ _ _ ∧ Ext _ _ from ⟨h1.drew, h2.drew, h3.drew⟩)
        clear h1 h2 h3
        go_wp2_with fail
        exact bodyPost_ret (results_cu3 rfl _ _ (w.heap.size + 1 + 1) (w.heap.size + 1 + 1 + 1) _ _ (by rfl) HE.out.1 rfl (by rfl) HE.out.2.1 rfl) rfl (HP.out _ _ rfl HE.out.2.2)

end Go.Proofs.Ythgaogbpkedjcaa
