/-
  Contracts of package order: Size, At, Rank, Floor, Ceil.
-/
import Derived.Test.YtjiehlhnocgneaaOrDown
import Derived.Test.YtjiehlhnocgneaaTrRight
set_option linter.unusedVariables false
set_option linter.unusedSimpArgs false
namespace Go.Proofs.Ytjiehlhnocgneaa
open Go.RowKit

theorem cfAt (args : Array Value) (w : World) : (callFunc 59 args).run Try.prog w = .ok (.enter 59 args) w := by kernel_rfl
theorem clAt_is (bx : Nat) (q k p : Int) (W : World) (hB : Bx W bx #[.int .i64 q]) : Calls Try.prog 59 #[.int .i64 k, .int .i64 p, .pointer (some ⟨bx, 0, none⟩)] W fun e w' => e = .returned (.bool ((fun _ p => decide (q ≤ p) : Int → Int → Bool) k p)) ∧ Ext W w' := by
  have c0 : W.cell? ⟨bx, 0, none⟩ = some (.int .i64 q) := hB.cell 0
  by_cases h : q ≤ p
  · rw [show ((fun _ p => decide (q ≤ p) : Int → Int → Bool) k p) = true by simpa using h]
    go_enter Try.func59, Try.ntmps59
    go_wp2_with fail
    go_ret
    exact ⟨rfl, Ext.refl W⟩
  · rw [show ((fun _ p => decide (q ≤ p) : Int → Int → Bool) k p) = false by simpa using h]
    go_enter Try.func59, Try.ntmps59
    go_wp2_with fail
    go_ret
    exact ⟨rfl, Ext.refl W⟩
theorem cfRank (args : Array Value) (w : World) : (callFunc 61 args).run Try.prog w = .ok (.enter 61 args) w := by kernel_rfl
theorem clRank_is (bx : Nat) (q k p : Int) (W : World) (hB : Bx W bx #[.int .i64 q]) : Calls Try.prog 61 #[.int .i64 k, .int .i64 p, .pointer (some ⟨bx, 0, none⟩)] W fun e w' => e = .returned (.bool ((fun k _ => decide (q ≤ k) : Int → Int → Bool) k p)) ∧ Ext W w' := by
  have c0 : W.cell? ⟨bx, 0, none⟩ = some (.int .i64 q) := hB.cell 0
  by_cases h : q ≤ k
  · rw [show ((fun k _ => decide (q ≤ k) : Int → Int → Bool) k p) = true by simpa using h]
    go_enter Try.func61, Try.ntmps61
    go_wp2_with fail
    go_ret
    exact ⟨rfl, Ext.refl W⟩
  · rw [show ((fun k _ => decide (q ≤ k) : Int → Int → Bool) k p) = false by simpa using h]
    go_enter Try.func61, Try.ntmps61
    go_wp2_with fail
    go_ret
    exact ⟨rfl, Ext.refl W⟩
theorem cfFloor (args : Array Value) (w : World) : (callFunc 62 args).run Try.prog w = .ok (.enter 62 args) w := by kernel_rfl
theorem clFloor_is (bx : Nat) (q k p : Int) (W : World) (hB : Bx W bx #[.int .i64 q]) : Calls Try.prog 62 #[.int .i64 k, .int .i64 p, .pointer (some ⟨bx, 0, none⟩)] W fun e w' => e = .returned (.bool ((fun k _ => decide (q < k) : Int → Int → Bool) k p)) ∧ Ext W w' := by
  have c0 : W.cell? ⟨bx, 0, none⟩ = some (.int .i64 q) := hB.cell 0
  by_cases h : q < k
  · rw [show ((fun k _ => decide (q < k) : Int → Int → Bool) k p) = true by simpa using h]
    go_enter Try.func62, Try.ntmps62
    go_wp2_with fail
    go_ret
    exact ⟨rfl, Ext.refl W⟩
  · rw [show ((fun k _ => decide (q < k) : Int → Int → Bool) k p) = false by simpa using h]
    go_enter Try.func62, Try.ntmps62
    go_wp2_with fail
    go_ret
    exact ⟨rfl, Ext.refl W⟩
theorem cfCeil (args : Array Value) (w : World) : (callFunc 63 args).run Try.prog w = .ok (.enter 63 args) w := by kernel_rfl
theorem clCeil_is (bx : Nat) (q k p : Int) (W : World) (hB : Bx W bx #[.int .i64 q]) : Calls Try.prog 63 #[.int .i64 k, .int .i64 p, .pointer (some ⟨bx, 0, none⟩)] W fun e w' => e = .returned (.bool ((fun k _ => decide (q ≤ k) : Int → Int → Bool) k p)) ∧ Ext W w' := by
  have c0 : W.cell? ⟨bx, 0, none⟩ = some (.int .i64 q) := hB.cell 0
  by_cases h : q ≤ k
  · rw [show ((fun k _ => decide (q ≤ k) : Int → Int → Bool) k p) = true by simpa using h]
    go_enter Try.func63, Try.ntmps63
    go_wp2_with fail
    go_ret
    exact ⟨rfl, Ext.refl W⟩
  · rw [show ((fun k _ => decide (q ≤ k) : Int → Int → Bool) k p) = false by simpa using h]
    go_enter Try.func63, Try.ntmps63
    go_wp2_with fail
    go_ret
    exact ⟨rfl, Ext.refl W⟩

theorem item_of (A B : Option Addr) (n c m d : Nat) (ns : List Nd) (t : T) (z : Int) (o : Option (Int × Int)) (w : World) (hR : Rep ns t) (hU : U t.ref) (h : Rd w 16 A n (flat Nd.cells ns)) (hok : ∀ x ∈ ns, x.Ok) (ho : (o = none ∧ z = 0) ∨ ∃ a, o = some a ∧ t.At z a) :
    Calls Try.prog 60 #[.agg #[.slice A n c, .slice B m d], .int .u64 z] w (ItemA o w) := by
  rcases ho with ⟨rfl, rfl⟩ | ⟨a, rfl, ha⟩
  · exact itemOf_none A B n c m d w
  · obtain ⟨h1, h2, h3, h4⟩ := at_node hok hR hU ha
    exact itemOf_some A B n c m d ns z a w h1 h2 h3 h4 h
/-- A call that fails with an item of nothing. -/
def ItemE (k : Int) (w : World) (e : Ending) (w' : World) : Prop := e = .returned (.tuple #[.agg #[.int .i64 0, .int .i64 0], .int .i64 k]) ∧ Ext w w'
def IntE (q k : Int) (w : World) (e : Ending) (w' : World) : Prop := e = .returned (.tuple #[.int .i64 q, .int .i64 k]) ∧ Ext w w'

set_option maxHeartbeats 1000000 in
theorem orSize_arg (A B : Option Addr) (n m c d : Nat) (ns : List Nd) (fs : List Int) (r : Int) (w : World) (h : Ar w A n B m ns fs) (hn : n ≤ 1000) (hm : m ≤ 1000) (hU : U r) (hno : ¬ (ArMay ns fs ∧ MapAt ns r)) :
    Calls Try.prog 29 #[.agg #[.slice A n c, .slice B m d], .int .u64 r] w (IntE 0 1 w) := by
  obtain ⟨w1, hw1⟩ : ∃ w1, w1 = w.alloc (.cells #[.slice A n c, .slice B m d] 25) := ⟨_, rfl⟩
  obtain ⟨B1, hx1, hs1⟩ := box_made hw1
  have HR := Lib.hid (trRight_is A B n m c d ns fs r w1 (h.to hx1) hn hm hU false (by simp [hno]))
  have H1 := Lib.hid hw1
  have X1 := Lib.hid hx1
  have k0 : w1.cell? ⟨w.heap.size, 0, none⟩ = some (.slice A n c) := B1.cell 0
  have k1 : w1.cell? ⟨w.heap.size, 1, none⟩ = some (.slice B m d) := B1.cell 1
  clear hw1 B1 hx1 hs1 h hno
  go_enter Try.func29, Try.ntmps29
  go_wp2_with fail
  rw [← H1.out]
  go_wp2_with fail
  refine HR.out.mono ?_; rintro e w2 ⟨rfl, hx2⟩
  have X2 := Lib.hid (X1.out.step hx2)
  clear hx2
  go_wp2_with fail
  go_ret2
  exact ⟨rfl, X2.out⟩

set_option maxHeartbeats 1000000 in
theorem orSize_ok (A B : Option Addr) (n m c d : Nat) (ns : List Nd) (fs : List Int) (t : T) (w : World) (h : Ar w A n B m ns fs) (hn : n ≤ 1000) (hm : m ≤ 1000) (hU : U t.ref) (hmay : ArMay ns fs) (hM : Mp ns t) :
    Calls Try.prog 29 #[.agg #[.slice A n c, .slice B m d], .int .u64 t.ref] w (IntE t.size 0 w) := by
  obtain ⟨w1, hw1⟩ : ∃ w1, w1 = w.alloc (.cells #[.slice A n c, .slice B m d] 25) := ⟨_, rfl⟩
  obtain ⟨B1, hx1, hs1⟩ := box_made hw1
  have HR := Lib.hid (trRight_is A B n m c d ns fs t.ref w1 (h.to hx1) hn hm hU true (by simp only [true_iff]; exact ⟨hmay, t, hM, rfl⟩))
  have HS := Lib.hid (fun W (hW : Ext w1 W) => orSize_is A B n c m d ns t.ref W hU.1 hU.2 (h.to (hx1.step hW)).nodes)
  rw [rep_s hM.rep] at HS
  have H1 := Lib.hid hw1
  have X1 := Lib.hid hx1
  have HB1 := Lib.hid B1
  have k0 : w1.cell? ⟨w.heap.size, 0, none⟩ = some (.slice A n c) := B1.cell 0
  have k1 : w1.cell? ⟨w.heap.size, 1, none⟩ = some (.slice B m d) := B1.cell 1
  clear hw1 B1 hx1 hs1 h hmay hM
  generalize t.ref = r at *
  go_enter Try.func29, Try.ntmps29
  go_wp2_with fail
  rw [← H1.out]
  go_wp2_with fail
  refine HR.out.mono ?_; rintro e w2 ⟨rfl, hx2⟩
  have X2 := Lib.hid hx2
  have k0 : w2.cell? ⟨w.heap.size, 0, none⟩ = some (.slice A n c) := (HB1.out.to hx2).cell 0
  have k1 : w2.cell? ⟨w.heap.size, 1, none⟩ = some (.slice B m d) := (HB1.out.to hx2).cell 1
  clear hx2
  go_wp2_with fail
  refine (HS.out _ X2.out).mono ?_; rintro e w3 ⟨rfl, hx3⟩
  have X3 := Lib.hid (X1.out.step (X2.out.step hx3))
  clear hx3
  go_wp2_with fail
  go_ret2
  exact ⟨rfl, X3.out⟩

set_option maxHeartbeats 2000000 in
theorem orAt_arg (A B : Option Addr) (n m c d : Nat) (ns : List Nd) (fs : List Int) (r q : Int) (w : World) (h : Ar w A n B m ns fs) (hn : n ≤ 1000) (hm : m ≤ 1000) (hU : U r) (hno : ¬ (ArMay ns fs ∧ MapAt ns r)) :
    Calls Try.prog 30 #[.agg #[.slice A n c, .slice B m d], .int .u64 r, .int .i64 q] w (ItemE 1 w) := by
  obtain ⟨w1, hw1⟩ : ∃ w1, w1 = w.alloc (.cells #[.slice A n c, .slice B m d] 25) := ⟨_, rfl⟩
  obtain ⟨w2, hw2⟩ : ∃ w2, w2 = w1.alloc (.cells #[.int .i64 q] 3) := ⟨_, rfl⟩
  obtain ⟨w3, hw3⟩ : ∃ w3, w3 = w2.alloc (.cells #[.int .i64 0, .int .i64 0] 60) := ⟨_, rfl⟩
  obtain ⟨B1, hx1, hs1⟩ := box_made hw1
  obtain ⟨B2, hx2, hs2⟩ := box_made hw2
  rw [hs1] at B2
  obtain ⟨B3, hx3, hs3⟩ := box_made hw3
  rw [hs2, hs1] at B3
  have HB3 := Lib.hid B3
  have H3 := Lib.hid hw3
  have X3 := Lib.hid (hx1.step (hx2.step hx3))
  have HB1 := Lib.hid (B1.to (hx2.step hx3))
  have HB2 := Lib.hid (B2.to hx3)
  have H1 := Lib.hid hw1
  have H2 := Lib.hid hw2
  have HA := Lib.hid (h.to X3.out)
  have k0 : w3.cell? ⟨w.heap.size, 0, none⟩ = some (.slice A n c) := HB1.out.cell 0
  have k1 : w3.cell? ⟨w.heap.size, 1, none⟩ = some (.slice B m d) := HB1.out.cell 1
  have HR := Lib.hid (trRight_is A B n m c d ns fs r w3 HA.out hn hm hU false (by simp [hno]))
  clear hw1 hw2 hw3 B1 B2 hx1 hx2 hs1 hs2 h B3 hx3 hs3 hno
  go_enter Try.func30, Try.ntmps30
  go_wp2_with fail
  rw [← H1.out, ← H2.out, ← H3.out]
  go_wp2_with fail
  refine HR.out.mono ?_; rintro e w4 ⟨rfl, hx4⟩
  have X4 := Lib.hid (X3.out.step hx4)
  have b4 := HB3.out.to hx4
  have HB4 := Lib.hid b4
  have f0 := b4.free 0
  have f1 := b4.free 1
  have g0 := b4.cell 0
  have g1 := b4.cell 1
  simp only [List.getElem?_toArray, List.getElem?_cons_zero, List.getElem?_cons_succ] at g0 g1
  clear hx4 b4
  go_wp2_with fail
  exact bodyPost_ret (results_it2 rfl _ _ (w.heap.size + 1 + 1) #[.int .i64 0, .int .i64 0] (by rfl) (HB4.out.two _ _) rfl) rfl ⟨rfl, (Only.two _ _ _ _).new X4.out (by omega)⟩

set_option maxHeartbeats 2000000 in
theorem orAt_low (A B : Option Addr) (n m c d : Nat) (ns : List Nd) (fs : List Int) (t : T) (q : Int) (w : World) (h : Ar w A n B m ns fs) (hn : n ≤ 1000) (hm : m ≤ 1000) (hU : U t.ref) (hmay : ArMay ns fs) (hM : Mp ns t) (hq : q < 0) :
    Calls Try.prog 30 #[.agg #[.slice A n c, .slice B m d], .int .u64 t.ref, .int .i64 q] w (ItemE 3 w) := by
  obtain ⟨w1, hw1⟩ : ∃ w1, w1 = w.alloc (.cells #[.slice A n c, .slice B m d] 25) := ⟨_, rfl⟩
  obtain ⟨w2, hw2⟩ : ∃ w2, w2 = w1.alloc (.cells #[.int .i64 q] 3) := ⟨_, rfl⟩
  obtain ⟨w3, hw3⟩ : ∃ w3, w3 = w2.alloc (.cells #[.int .i64 0, .int .i64 0] 60) := ⟨_, rfl⟩
  obtain ⟨B1, hx1, hs1⟩ := box_made hw1
  obtain ⟨B2, hx2, hs2⟩ := box_made hw2
  rw [hs1] at B2
  obtain ⟨B3, hx3, hs3⟩ := box_made hw3
  rw [hs2, hs1] at B3
  have HB3 := Lib.hid B3
  have H3 := Lib.hid hw3
  have X3 := Lib.hid (hx1.step (hx2.step hx3))
  have HB1 := Lib.hid (B1.to (hx2.step hx3))
  have HB2 := Lib.hid (B2.to hx3)
  have H1 := Lib.hid hw1
  have H2 := Lib.hid hw2
  have HA := Lib.hid (h.to X3.out)
  have k0 : w3.cell? ⟨w.heap.size, 0, none⟩ = some (.slice A n c) := HB1.out.cell 0
  have k1 : w3.cell? ⟨w.heap.size, 1, none⟩ = some (.slice B m d) := HB1.out.cell 1
  have HR := Lib.hid (trRight_is A B n m c d ns fs t.ref w3 HA.out hn hm hU true (by simp only [true_iff]; exact ⟨hmay, t, hM, rfl⟩))
  clear hw1 hw2 hw3 B1 B2 hx1 hx2 hs1 hs2 h B3 hx3 hs3 hmay hM
  generalize t.ref = r at *
  go_enter Try.func30, Try.ntmps30
  go_wp2_with fail
  rw [← H1.out, ← H2.out, ← H3.out]
  go_wp2_with fail
  refine HR.out.mono ?_; rintro e w4 ⟨rfl, hx4⟩
  have X4 := Lib.hid (X3.out.step hx4)
  have b4 := HB3.out.to hx4
  have HB4 := Lib.hid b4
  have e0 : w4.cell? ⟨w.heap.size + 1, 0, none⟩ = some (.int .i64 q) := (HB2.out.to hx4).cell 0
  have f0 := b4.free 0
  have f1 := b4.free 1
  have g0 := b4.cell 0
  have g1 := b4.cell 1
  simp only [List.getElem?_toArray, List.getElem?_cons_zero, List.getElem?_cons_succ] at g0 g1
  clear hx4 b4
  go_wp2_with fail
  exact bodyPost_ret (results_it2 rfl _ _ (w.heap.size + 1 + 1) #[.int .i64 0, .int .i64 0] (by rfl) (HB4.out.two _ _) rfl) rfl ⟨rfl, (Only.two _ _ _ _).new X4.out (by omega)⟩

set_option maxHeartbeats 2000000 in
theorem orAt_is (A B : Option Addr) (n m c d : Nat) (ns : List Nd) (fs : List Int) (t : T) (q : Int) (w : World) (h : Ar w A n B m ns fs) (hn : n ≤ 1000) (hm : m ≤ 1000) (hU : U t.ref) (hmay : ArMay ns fs) (hM : Mp ns t) (hq : 0 ≤ q) :
    Calls Try.prog 30 #[.agg #[.slice A n c, .slice B m d], .int .u64 t.ref, .int .i64 q] w (ItemA t.row[q.toNat]? w) := by
  obtain ⟨w1, hw1⟩ : ∃ w1, w1 = w.alloc (.cells #[.slice A n c, .slice B m d] 25) := ⟨_, rfl⟩
  obtain ⟨w2, hw2⟩ : ∃ w2, w2 = w1.alloc (.cells #[.int .i64 q] 3) := ⟨_, rfl⟩
  obtain ⟨w3, hw3⟩ : ∃ w3, w3 = w2.alloc (.cells #[.int .i64 0, .int .i64 0] 60) := ⟨_, rfl⟩
  obtain ⟨B1, hx1, hs1⟩ := box_made hw1
  obtain ⟨B2, hx2, hs2⟩ := box_made hw2
  rw [hs1] at B2
  obtain ⟨B3, hx3, hs3⟩ := box_made hw3
  rw [hs2, hs1] at B3
  have HB3 := Lib.hid B3
  have H3 := Lib.hid hw3
  have X3 := Lib.hid (hx1.step (hx2.step hx3))
  have HB1 := Lib.hid (B1.to (hx2.step hx3))
  have HB2 := Lib.hid (B2.to hx3)
  have H1 := Lib.hid hw1
  have H2 := Lib.hid hw2
  have HA := Lib.hid (h.to X3.out)
  have k0 : w3.cell? ⟨w.heap.size, 0, none⟩ = some (.slice A n c) := HB1.out.cell 0
  have k1 : w3.cell? ⟨w.heap.size, 1, none⟩ = some (.slice B m d) := HB1.out.cell 1
  have HR := Lib.hid (trRight_is A B n m c d ns fs t.ref w3 HA.out hn hm hU true (by simp only [true_iff]; exact ⟨hmay, t, hM, rfl⟩))
  have HD := Lib.hid (fun W (hW : Ext w3 W) => down_is 59 (w.heap.size + 1) (.int .i64 q) (fun _ p => decide (q ≤ p)) A B n c m d ns t W hM.rep hM.le hU (HA.out.to hW).nodes (HA.out.to hW).ok cfAt (HB2.out.to hW) (fun k p W hB => clAt_is _ q k p W hB))
  obtain ⟨j, hc, hj1, hj2, hj3⟩ := dn_is (fun _ p => decide (q ≤ p)) t 0 0 0 (mono_at t.row q)
  have HO := Lib.hid (show (t.row[j]? = none ∧ (dn (fun _ p => decide (q ≤ p)) t 0 0 0).2.2 = 0) ∨ ∃ a, t.row[j]? = some a ∧ t.At (dn (fun _ p => decide (q ≤ p)) t 0 0 0).2.2 a from by
    rcases hj3 with ⟨e, h⟩ | ⟨a, h1, h2⟩
    · exact .inl ⟨by rw [e]; simp, h⟩
    · exact .inr ⟨a, h1, h2⟩)
  rw [← cut_at hq hc]
  generalize t.row[j]? = oo at *
  obtain ⟨D, hD⟩ : ∃ D, D = dn (fun _ p => decide (q ≤ p)) t 0 0 0 := ⟨_, rfl⟩
  rw [← hD] at HD HO
  obtain ⟨D1, D2, D3⟩ := D
  unfold DownA at HD
  simp only at HD HO
  have HIt := Lib.hid (fun W (hW : Ext w3 W) => item_of A B n c m d ns t D3 oo W hM.rep hU (HA.out.to hW).nodes (HA.out.to hW).ok HO.out)
  clear hD HO
  clear hw1 hw2 hw3 B1 B2 hx1 hx2 hs1 hs2 h B3 hx3 hs3 hmay hM hc hj1 hj2 hj3
  generalize t.ref = r at *
  have hmf : ∀ (fn : Fn) (first cap : Array Value) (w : World), (Instr.makeFunc fn first cap).run Try.prog w = .ok (.func fn first cap) w := fun fn first cap w => rfl
  go_enter Try.func30, Try.ntmps30
  go_wp2_with fail
  rw [← H1.out, ← H2.out, ← H3.out]
  go_wp2_with fail
  refine HR.out.mono ?_; rintro e w4 ⟨rfl, hx4⟩
  have X4 := Lib.hid hx4
  have e0 : w4.cell? ⟨w.heap.size + 1, 0, none⟩ = some (.int .i64 q) := (HB2.out.to hx4).cell 0
  have hq' : decide (q < 0) = false := by simpa using hq
  have k0 : w4.cell? ⟨w.heap.size, 0, none⟩ = some (.slice A n c) := (HB1.out.to hx4).cell 0
  have k1 : w4.cell? ⟨w.heap.size, 1, none⟩ = some (.slice B m d) := (HB1.out.to hx4).cell 1
  clear hx4
  go_wp2_with fail
  refine (HD.out _ X4.out).mono ?_; rintro e w5 ⟨rfl, hx5⟩
  obtain ⟨w6, hw6⟩ : ∃ w6, w6 = w5.alloc (.cells #[.int .i64 D1, .int .u64 D2, .int .u64 D3] 97) := ⟨_, rfl⟩
  obtain ⟨B6, hx6, hs6⟩ := box_made hw6
  have X6 := Lib.hid (X4.out.step (hx5.step hx6))
  have H6 := Lib.hid hw6
  have e1 : w6.cell? ⟨w5.heap.size, 2, none⟩ = some (.int .u64 D3) := B6.cell 2
  have k0 : w6.cell? ⟨w.heap.size, 0, none⟩ = some (.slice A n c) := (HB1.out.to X6.out).cell 0
  have k1 : w6.cell? ⟨w.heap.size, 1, none⟩ = some (.slice B m d) := (HB1.out.to X6.out).cell 1
  rw [hw6] at e1 k0 k1
  clear hw6 B6 hx6 hs6 hx5
  go_wp2_with fail
  rw [← H6.out]
  refine (HIt.out _ X6.out).mono ?_; rintro e w7 ⟨rfl, hx7⟩
  have b7 := HB3.out.to (X6.out.step hx7)
  have HB7 := Lib.hid b7
  have X7 := Lib.hid (X3.out.step (X6.out.step hx7))
  have f0 := b7.free 0
  have f1 := b7.free 1
  have g0 := b7.cell 0
  have g1 := b7.cell 1
  simp only [List.getElem?_toArray, List.getElem?_cons_zero, List.getElem?_cons_succ] at g0 g1
  clear hx7 b7
  rcases oo with _ | ⟨a1, a2⟩
  · unfold itV
    go_wp2_with fail
    exact bodyPost_ret (results_it2 rfl _ _ (w.heap.size + 1 + 1) #[.int .i64 0, .int .i64 0] (by rfl) (HB7.out.two _ _) rfl) rfl ⟨rfl, (Only.two _ _ _ _).new X7.out (by omega)⟩
  · unfold itV
    go_wp2_with fail
    exact bodyPost_ret (results_it2 rfl _ _ (w.heap.size + 1 + 1) #[.int .i64 a1, .int .i64 a2] (by rfl) (HB7.out.two _ _) rfl) rfl ⟨rfl, (Only.two _ _ _ _).new X7.out (by omega)⟩

set_option maxHeartbeats 2000000 in
theorem orRank_arg (A B : Option Addr) (n m c d : Nat) (ns : List Nd) (fs : List Int) (r q : Int) (w : World) (h : Ar w A n B m ns fs) (hn : n ≤ 1000) (hm : m ≤ 1000) (hU : U r) (hno : ¬ (ArMay ns fs ∧ MapAt ns r)) :
    Calls Try.prog 31 #[.agg #[.slice A n c, .slice B m d], .int .u64 r, .int .i64 q] w (IntE 0 1 w) := by
  obtain ⟨w1, hw1⟩ : ∃ w1, w1 = w.alloc (.cells #[.slice A n c, .slice B m d] 25) := ⟨_, rfl⟩
  obtain ⟨w2, hw2⟩ : ∃ w2, w2 = w1.alloc (.cells #[.int .i64 q] 2) := ⟨_, rfl⟩
  obtain ⟨B1, hx1, hs1⟩ := box_made hw1
  obtain ⟨B2, hx2, hs2⟩ := box_made hw2
  rw [hs1] at B2
  obtain ⟨w3, hw3⟩ : ∃ w3, w3 = w2 := ⟨_, rfl⟩
  rw [← hw3] at B2 hx2
  have X3 := Lib.hid (hx1.step hx2)
  have HB1 := Lib.hid (B1.to hx2)
  have HB2 := Lib.hid B2
  have H3 := Lib.hid hw3
  have H1 := Lib.hid hw1
  have H2 := Lib.hid hw2
  have HA := Lib.hid (h.to X3.out)
  have k0 : w3.cell? ⟨w.heap.size, 0, none⟩ = some (.slice A n c) := HB1.out.cell 0
  have k1 : w3.cell? ⟨w.heap.size, 1, none⟩ = some (.slice B m d) := HB1.out.cell 1
  have HR := Lib.hid (trRight_is A B n m c d ns fs r w3 HA.out hn hm hU false (by simp [hno]))
  clear hw1 hw2 hw3 B1 B2 hx1 hx2 hs1 hs2 h hno
  go_enter Try.func31, Try.ntmps31
  go_wp2_with fail
  rw [← H1.out, ← H2.out, ← H3.out]
  go_wp2_with fail
  refine HR.out.mono ?_; rintro e w4 ⟨rfl, hx4⟩
  have X4 := Lib.hid (X3.out.step hx4)
  clear hx4
  go_wp2_with fail
  go_ret2
  exact ⟨rfl, X4.out⟩

set_option maxHeartbeats 2000000 in
theorem orRank_is (A B : Option Addr) (n m c d : Nat) (ns : List Nd) (fs : List Int) (t : T) (q : Int) (w : World) (h : Ar w A n B m ns fs) (hn : n ≤ 1000) (hm : m ≤ 1000) (hU : U t.ref) (hmay : ArMay ns fs) (hM : Mp ns t) :
    Calls Try.prog 31 #[.agg #[.slice A n c, .slice B m d], .int .u64 t.ref, .int .i64 q] w (IntE (lo t.row q).length 0 w) := by
  obtain ⟨w1, hw1⟩ : ∃ w1, w1 = w.alloc (.cells #[.slice A n c, .slice B m d] 25) := ⟨_, rfl⟩
  obtain ⟨w2, hw2⟩ : ∃ w2, w2 = w1.alloc (.cells #[.int .i64 q] 2) := ⟨_, rfl⟩
  obtain ⟨B1, hx1, hs1⟩ := box_made hw1
  obtain ⟨B2, hx2, hs2⟩ := box_made hw2
  rw [hs1] at B2
  obtain ⟨w3, hw3⟩ : ∃ w3, w3 = w2 := ⟨_, rfl⟩
  rw [← hw3] at B2 hx2
  have X3 := Lib.hid (hx1.step hx2)
  have HB1 := Lib.hid (B1.to hx2)
  have HB2 := Lib.hid B2
  have H3 := Lib.hid hw3
  have H1 := Lib.hid hw1
  have H2 := Lib.hid hw2
  have HA := Lib.hid (h.to X3.out)
  have k0 : w3.cell? ⟨w.heap.size, 0, none⟩ = some (.slice A n c) := HB1.out.cell 0
  have k1 : w3.cell? ⟨w.heap.size, 1, none⟩ = some (.slice B m d) := HB1.out.cell 1
  have HR := Lib.hid (trRight_is A B n m c d ns fs t.ref w3 HA.out hn hm hU true (by simp only [true_iff]; exact ⟨hmay, t, hM, rfl⟩))
  have HD := Lib.hid (fun W (hW : Ext w3 W) => down_is 61 (w.heap.size + 1) (.int .i64 q) (fun k _ => decide (q ≤ k)) A B n c m d ns t W hM.rep hM.le hU (HA.out.to hW).nodes (HA.out.to hW).ok cfRank (HB2.out.to hW) (fun k p W hB => clRank_is _ q k p W hB))
  obtain ⟨j, hc, hj1, hj2, hj3⟩ := dn_is (fun k _ => decide (q ≤ k)) t 0 0 0 (mono_ge hM.srt q)
  rw [cut_lo hc, List.length_take, Nat.min_eq_left hc.le]
  rw [Nat.zero_add] at hj1
  unfold DownA at HD
  rw [hj1] at HD
  generalize (dn (fun k _ => decide (q ≤ k)) t 0 0 0).2.1 = D2 at HD
  generalize (dn (fun k _ => decide (q ≤ k)) t 0 0 0).2.2 = D3 at HD
  clear hw1 hw2 hw3 B1 B2 hx1 hx2 hs1 hs2 h hmay hM hc hj1 hj2 hj3
  generalize t.ref = r at *
  have hmf : ∀ (fn : Fn) (first cap : Array Value) (w : World), (Instr.makeFunc fn first cap).run Try.prog w = .ok (.func fn first cap) w := fun fn first cap w => rfl
  go_enter Try.func31, Try.ntmps31
  go_wp2_with fail
  rw [← H1.out, ← H2.out, ← H3.out]
  go_wp2_with fail
  refine HR.out.mono ?_; rintro e w4 ⟨rfl, hx4⟩
  have X4 := Lib.hid hx4
  have k0 : w4.cell? ⟨w.heap.size, 0, none⟩ = some (.slice A n c) := (HB1.out.to hx4).cell 0
  have k1 : w4.cell? ⟨w.heap.size, 1, none⟩ = some (.slice B m d) := (HB1.out.to hx4).cell 1
  clear hx4
  go_wp2_with fail
  refine (HD.out _ X4.out).mono ?_; rintro e w5 ⟨rfl, hx5⟩
  have X5 := Lib.hid (X3.out.step (X4.out.step hx5))
  clear hx5
  go_wp2_with fail
  go_ret2
  exact ⟨rfl, X5.out.new _⟩

set_option maxHeartbeats 2000000 in
theorem orFloor_arg (A B : Option Addr) (n m c d : Nat) (ns : List Nd) (fs : List Int) (r q : Int) (w : World) (h : Ar w A n B m ns fs) (hn : n ≤ 1000) (hm : m ≤ 1000) (hU : U r) (hno : ¬ (ArMay ns fs ∧ MapAt ns r)) :
    Calls Try.prog 32 #[.agg #[.slice A n c, .slice B m d], .int .u64 r, .int .i64 q] w (ItemE 1 w) := by
  obtain ⟨w1, hw1⟩ : ∃ w1, w1 = w.alloc (.cells #[.slice A n c, .slice B m d] 25) := ⟨_, rfl⟩
  obtain ⟨w2, hw2⟩ : ∃ w2, w2 = w1.alloc (.cells #[.int .i64 q] 2) := ⟨_, rfl⟩
  obtain ⟨w3, hw3⟩ : ∃ w3, w3 = w2.alloc (.cells #[.int .i64 0, .int .i64 0] 60) := ⟨_, rfl⟩
  obtain ⟨B1, hx1, hs1⟩ := box_made hw1
  obtain ⟨B2, hx2, hs2⟩ := box_made hw2
  rw [hs1] at B2
  obtain ⟨B3, hx3, hs3⟩ := box_made hw3
  rw [hs2, hs1] at B3
  have HB3 := Lib.hid B3
  have H3 := Lib.hid hw3
  have X3 := Lib.hid (hx1.step (hx2.step hx3))
  have HB1 := Lib.hid (B1.to (hx2.step hx3))
  have HB2 := Lib.hid (B2.to hx3)
  have H1 := Lib.hid hw1
  have H2 := Lib.hid hw2
  have HA := Lib.hid (h.to X3.out)
  have k0 : w3.cell? ⟨w.heap.size, 0, none⟩ = some (.slice A n c) := HB1.out.cell 0
  have k1 : w3.cell? ⟨w.heap.size, 1, none⟩ = some (.slice B m d) := HB1.out.cell 1
  have HR := Lib.hid (trRight_is A B n m c d ns fs r w3 HA.out hn hm hU false (by simp [hno]))
  clear hw1 hw2 hw3 B1 B2 hx1 hx2 hs1 hs2 h B3 hx3 hs3 hno
  go_enter Try.func32, Try.ntmps32
  go_wp2_with fail
  rw [← H1.out, ← H2.out, ← H3.out]
  go_wp2_with fail
  refine HR.out.mono ?_; rintro e w4 ⟨rfl, hx4⟩
  have X4 := Lib.hid (X3.out.step hx4)
  have b4 := HB3.out.to hx4
  have HB4 := Lib.hid b4
  have f0 := b4.free 0
  have f1 := b4.free 1
  have g0 := b4.cell 0
  have g1 := b4.cell 1
  simp only [List.getElem?_toArray, List.getElem?_cons_zero, List.getElem?_cons_succ] at g0 g1
  clear hx4 b4
  go_wp2_with fail
  exact bodyPost_ret (results_it2 rfl _ _ (w.heap.size + 1 + 1) #[.int .i64 0, .int .i64 0] (by rfl) (HB4.out.two _ _) rfl) rfl ⟨rfl, (Only.two _ _ _ _).new X4.out (by omega)⟩

set_option maxHeartbeats 2000000 in
theorem orFloor_is (A B : Option Addr) (n m c d : Nat) (ns : List Nd) (fs : List Int) (t : T) (q : Int) (w : World) (h : Ar w A n B m ns fs) (hn : n ≤ 1000) (hm : m ≤ 1000) (hU : U t.ref) (hmay : ArMay ns fs) (hM : Mp ns t) :
    Calls Try.prog 32 #[.agg #[.slice A n c, .slice B m d], .int .u64 t.ref, .int .i64 q] w (ItemA (if (upto t.row q).length = 0 then none else t.row[(upto t.row q).length - 1]?) w) := by
  obtain ⟨w1, hw1⟩ : ∃ w1, w1 = w.alloc (.cells #[.slice A n c, .slice B m d] 25) := ⟨_, rfl⟩
  obtain ⟨w2, hw2⟩ : ∃ w2, w2 = w1.alloc (.cells #[.int .i64 q] 2) := ⟨_, rfl⟩
  obtain ⟨w3, hw3⟩ : ∃ w3, w3 = w2.alloc (.cells #[.int .i64 0, .int .i64 0] 60) := ⟨_, rfl⟩
  obtain ⟨B1, hx1, hs1⟩ := box_made hw1
  obtain ⟨B2, hx2, hs2⟩ := box_made hw2
  rw [hs1] at B2
  obtain ⟨B3, hx3, hs3⟩ := box_made hw3
  rw [hs2, hs1] at B3
  have HB3 := Lib.hid B3
  have H3 := Lib.hid hw3
  have X3 := Lib.hid (hx1.step (hx2.step hx3))
  have HB1 := Lib.hid (B1.to (hx2.step hx3))
  have HB2 := Lib.hid (B2.to hx3)
  have H1 := Lib.hid hw1
  have H2 := Lib.hid hw2
  have HA := Lib.hid (h.to X3.out)
  have k0 : w3.cell? ⟨w.heap.size, 0, none⟩ = some (.slice A n c) := HB1.out.cell 0
  have k1 : w3.cell? ⟨w.heap.size, 1, none⟩ = some (.slice B m d) := HB1.out.cell 1
  have HR := Lib.hid (trRight_is A B n m c d ns fs t.ref w3 HA.out hn hm hU true (by simp only [true_iff]; exact ⟨hmay, t, hM, rfl⟩))
  have HD := Lib.hid (fun W (hW : Ext w3 W) => down_is 62 (w.heap.size + 1) (.int .i64 q) (fun k _ => decide (q < k)) A B n c m d ns t W hM.rep hM.le hU (HA.out.to hW).nodes (HA.out.to hW).ok cfFloor (HB2.out.to hW) (fun k p W hB => clFloor_is _ q k p W hB))
  obtain ⟨j, hc, hj1, hj2, hj3⟩ := dn_is (fun k _ => decide (q < k)) t 0 0 0 (mono_gt hM.srt q)
  have HO := Lib.hid (show ((if j = 0 then none else t.row[j - 1]?) = none ∧ (dn (fun k _ => decide (q < k)) t 0 0 0).2.1 = 0) ∨ ∃ a, (if j = 0 then none else t.row[j - 1]?) = some a ∧ t.At (dn (fun k _ => decide (q < k)) t 0 0 0).2.1 a from by
    rcases hj2 with ⟨e, h⟩ | ⟨a, h1, h2, h3⟩
    · exact .inl ⟨by rw [if_pos e], h⟩
    · exact .inr ⟨a, by rw [if_neg (by omega)]; exact h2, h3⟩)
  rw [cut_upto hc, List.length_take, Nat.min_eq_left hc.le]
  generalize (if j = 0 then none else t.row[j - 1]?) = oo at *
  obtain ⟨D, hD⟩ : ∃ D, D = dn (fun k _ => decide (q < k)) t 0 0 0 := ⟨_, rfl⟩
  rw [← hD] at HD HO
  obtain ⟨D1, D2, D3⟩ := D
  unfold DownA at HD
  simp only at HD HO
  have HIt := Lib.hid (fun W (hW : Ext w3 W) => item_of A B n c m d ns t D2 oo W hM.rep hU (HA.out.to hW).nodes (HA.out.to hW).ok HO.out)
  clear hD HO
  clear hw1 hw2 hw3 B1 B2 hx1 hx2 hs1 hs2 h B3 hx3 hs3 hmay hM hc hj1 hj2 hj3
  generalize t.ref = r at *
  have hmf : ∀ (fn : Fn) (first cap : Array Value) (w : World), (Instr.makeFunc fn first cap).run Try.prog w = .ok (.func fn first cap) w := fun fn first cap w => rfl
  go_enter Try.func32, Try.ntmps32
  go_wp2_with fail
  rw [← H1.out, ← H2.out, ← H3.out]
  go_wp2_with fail
  refine HR.out.mono ?_; rintro e w4 ⟨rfl, hx4⟩
  have X4 := Lib.hid hx4
  have k0 : w4.cell? ⟨w.heap.size, 0, none⟩ = some (.slice A n c) := (HB1.out.to hx4).cell 0
  have k1 : w4.cell? ⟨w.heap.size, 1, none⟩ = some (.slice B m d) := (HB1.out.to hx4).cell 1
  clear hx4
  go_wp2_with fail
  refine (HD.out _ X4.out).mono ?_; rintro e w5 ⟨rfl, hx5⟩
  obtain ⟨w6, hw6⟩ : ∃ w6, w6 = w5.alloc (.cells #[.int .i64 D1, .int .u64 D2, .int .u64 D3] 97) := ⟨_, rfl⟩
  obtain ⟨B6, hx6, hs6⟩ := box_made hw6
  have X6 := Lib.hid (X4.out.step (hx5.step hx6))
  have H6 := Lib.hid hw6
  have e1 : w6.cell? ⟨w5.heap.size, 1, none⟩ = some (.int .u64 D2) := B6.cell 1
  have k0 : w6.cell? ⟨w.heap.size, 0, none⟩ = some (.slice A n c) := (HB1.out.to X6.out).cell 0
  have k1 : w6.cell? ⟨w.heap.size, 1, none⟩ = some (.slice B m d) := (HB1.out.to X6.out).cell 1
  rw [hw6] at e1 k0 k1
  clear hw6 B6 hx6 hs6 hx5
  go_wp2_with fail
  rw [← H6.out]
  refine (HIt.out _ X6.out).mono ?_; rintro e w7 ⟨rfl, hx7⟩
  have b7 := HB3.out.to (X6.out.step hx7)
  have HB7 := Lib.hid b7
  have X7 := Lib.hid (X3.out.step (X6.out.step hx7))
  have f0 := b7.free 0
  have f1 := b7.free 1
  have g0 := b7.cell 0
  have g1 := b7.cell 1
  simp only [List.getElem?_toArray, List.getElem?_cons_zero, List.getElem?_cons_succ] at g0 g1
  clear hx7 b7
  rcases oo with _ | ⟨a1, a2⟩
  · unfold itV
    go_wp2_with fail
    exact bodyPost_ret (results_it2 rfl _ _ (w.heap.size + 1 + 1) #[.int .i64 0, .int .i64 0] (by rfl) (HB7.out.two _ _) rfl) rfl ⟨rfl, (Only.two _ _ _ _).new X7.out (by omega)⟩
  · unfold itV
    go_wp2_with fail
    exact bodyPost_ret (results_it2 rfl _ _ (w.heap.size + 1 + 1) #[.int .i64 a1, .int .i64 a2] (by rfl) (HB7.out.two _ _) rfl) rfl ⟨rfl, (Only.two _ _ _ _).new X7.out (by omega)⟩

set_option maxHeartbeats 2000000 in
theorem orCeil_arg (A B : Option Addr) (n m c d : Nat) (ns : List Nd) (fs : List Int) (r q : Int) (w : World) (h : Ar w A n B m ns fs) (hn : n ≤ 1000) (hm : m ≤ 1000) (hU : U r) (hno : ¬ (ArMay ns fs ∧ MapAt ns r)) :
    Calls Try.prog 33 #[.agg #[.slice A n c, .slice B m d], .int .u64 r, .int .i64 q] w (ItemE 1 w) := by
  obtain ⟨w1, hw1⟩ : ∃ w1, w1 = w.alloc (.cells #[.slice A n c, .slice B m d] 25) := ⟨_, rfl⟩
  obtain ⟨w2, hw2⟩ : ∃ w2, w2 = w1.alloc (.cells #[.int .i64 q] 2) := ⟨_, rfl⟩
  obtain ⟨w3, hw3⟩ : ∃ w3, w3 = w2.alloc (.cells #[.int .i64 0, .int .i64 0] 60) := ⟨_, rfl⟩
  obtain ⟨B1, hx1, hs1⟩ := box_made hw1
  obtain ⟨B2, hx2, hs2⟩ := box_made hw2
  rw [hs1] at B2
  obtain ⟨B3, hx3, hs3⟩ := box_made hw3
  rw [hs2, hs1] at B3
  have HB3 := Lib.hid B3
  have H3 := Lib.hid hw3
  have X3 := Lib.hid (hx1.step (hx2.step hx3))
  have HB1 := Lib.hid (B1.to (hx2.step hx3))
  have HB2 := Lib.hid (B2.to hx3)
  have H1 := Lib.hid hw1
  have H2 := Lib.hid hw2
  have HA := Lib.hid (h.to X3.out)
  have k0 : w3.cell? ⟨w.heap.size, 0, none⟩ = some (.slice A n c) := HB1.out.cell 0
  have k1 : w3.cell? ⟨w.heap.size, 1, none⟩ = some (.slice B m d) := HB1.out.cell 1
  have HR := Lib.hid (trRight_is A B n m c d ns fs r w3 HA.out hn hm hU false (by simp [hno]))
  clear hw1 hw2 hw3 B1 B2 hx1 hx2 hs1 hs2 h B3 hx3 hs3 hno
  go_enter Try.func33, Try.ntmps33
  go_wp2_with fail
  rw [← H1.out, ← H2.out, ← H3.out]
  go_wp2_with fail
  refine HR.out.mono ?_; rintro e w4 ⟨rfl, hx4⟩
  have X4 := Lib.hid (X3.out.step hx4)
  have b4 := HB3.out.to hx4
  have HB4 := Lib.hid b4
  have f0 := b4.free 0
  have f1 := b4.free 1
  have g0 := b4.cell 0
  have g1 := b4.cell 1
  simp only [List.getElem?_toArray, List.getElem?_cons_zero, List.getElem?_cons_succ] at g0 g1
  clear hx4 b4
  go_wp2_with fail
  exact bodyPost_ret (results_it2 rfl _ _ (w.heap.size + 1 + 1) #[.int .i64 0, .int .i64 0] (by rfl) (HB4.out.two _ _) rfl) rfl ⟨rfl, (Only.two _ _ _ _).new X4.out (by omega)⟩

set_option maxHeartbeats 2000000 in
theorem orCeil_is (A B : Option Addr) (n m c d : Nat) (ns : List Nd) (fs : List Int) (t : T) (q : Int) (w : World) (h : Ar w A n B m ns fs) (hn : n ≤ 1000) (hm : m ≤ 1000) (hU : U t.ref) (hmay : ArMay ns fs) (hM : Mp ns t) :
    Calls Try.prog 33 #[.agg #[.slice A n c, .slice B m d], .int .u64 t.ref, .int .i64 q] w (ItemA t.row[(lo t.row q).length]? w) := by
  obtain ⟨w1, hw1⟩ : ∃ w1, w1 = w.alloc (.cells #[.slice A n c, .slice B m d] 25) := ⟨_, rfl⟩
  obtain ⟨w2, hw2⟩ : ∃ w2, w2 = w1.alloc (.cells #[.int .i64 q] 2) := ⟨_, rfl⟩
  obtain ⟨w3, hw3⟩ : ∃ w3, w3 = w2.alloc (.cells #[.int .i64 0, .int .i64 0] 60) := ⟨_, rfl⟩
  obtain ⟨B1, hx1, hs1⟩ := box_made hw1
  obtain ⟨B2, hx2, hs2⟩ := box_made hw2
  rw [hs1] at B2
  obtain ⟨B3, hx3, hs3⟩ := box_made hw3
  rw [hs2, hs1] at B3
  have HB3 := Lib.hid B3
  have H3 := Lib.hid hw3
  have X3 := Lib.hid (hx1.step (hx2.step hx3))
  have HB1 := Lib.hid (B1.to (hx2.step hx3))
  have HB2 := Lib.hid (B2.to hx3)
  have H1 := Lib.hid hw1
  have H2 := Lib.hid hw2
  have HA := Lib.hid (h.to X3.out)
  have k0 : w3.cell? ⟨w.heap.size, 0, none⟩ = some (.slice A n c) := HB1.out.cell 0
  have k1 : w3.cell? ⟨w.heap.size, 1, none⟩ = some (.slice B m d) := HB1.out.cell 1
  have HR := Lib.hid (trRight_is A B n m c d ns fs t.ref w3 HA.out hn hm hU true (by simp only [true_iff]; exact ⟨hmay, t, hM, rfl⟩))
  have HD := Lib.hid (fun W (hW : Ext w3 W) => down_is 63 (w.heap.size + 1) (.int .i64 q) (fun k _ => decide (q ≤ k)) A B n c m d ns t W hM.rep hM.le hU (HA.out.to hW).nodes (HA.out.to hW).ok cfCeil (HB2.out.to hW) (fun k p W hB => clCeil_is _ q k p W hB))
  obtain ⟨j, hc, hj1, hj2, hj3⟩ := dn_is (fun k _ => decide (q ≤ k)) t 0 0 0 (mono_ge hM.srt q)
  have HO := Lib.hid (show (t.row[j]? = none ∧ (dn (fun k _ => decide (q ≤ k)) t 0 0 0).2.2 = 0) ∨ ∃ a, t.row[j]? = some a ∧ t.At (dn (fun k _ => decide (q ≤ k)) t 0 0 0).2.2 a from by
    rcases hj3 with ⟨e, h⟩ | ⟨a, h1, h2⟩
    · exact .inl ⟨by rw [e]; simp, h⟩
    · exact .inr ⟨a, h1, h2⟩)
  rw [cut_lo hc, List.length_take, Nat.min_eq_left hc.le]
  generalize t.row[j]? = oo at *
  obtain ⟨D, hD⟩ : ∃ D, D = dn (fun k _ => decide (q ≤ k)) t 0 0 0 := ⟨_, rfl⟩
  rw [← hD] at HD HO
  obtain ⟨D1, D2, D3⟩ := D
  unfold DownA at HD
  simp only at HD HO
  have HIt := Lib.hid (fun W (hW : Ext w3 W) => item_of A B n c m d ns t D3 oo W hM.rep hU (HA.out.to hW).nodes (HA.out.to hW).ok HO.out)
  clear hD HO
  clear hw1 hw2 hw3 B1 B2 hx1 hx2 hs1 hs2 h B3 hx3 hs3 hmay hM hc hj1 hj2 hj3
  generalize t.ref = r at *
  have hmf : ∀ (fn : Fn) (first cap : Array Value) (w : World), (Instr.makeFunc fn first cap).run Try.prog w = .ok (.func fn first cap) w := fun fn first cap w => rfl
  go_enter Try.func33, Try.ntmps33
  go_wp2_with fail
  rw [← H1.out, ← H2.out, ← H3.out]
  go_wp2_with fail
  refine HR.out.mono ?_; rintro e w4 ⟨rfl, hx4⟩
  have X4 := Lib.hid hx4
  have k0 : w4.cell? ⟨w.heap.size, 0, none⟩ = some (.slice A n c) := (HB1.out.to hx4).cell 0
  have k1 : w4.cell? ⟨w.heap.size, 1, none⟩ = some (.slice B m d) := (HB1.out.to hx4).cell 1
  clear hx4
  go_wp2_with fail
  refine (HD.out _ X4.out).mono ?_; rintro e w5 ⟨rfl, hx5⟩
  obtain ⟨w6, hw6⟩ : ∃ w6, w6 = w5.alloc (.cells #[.int .i64 D1, .int .u64 D2, .int .u64 D3] 97) := ⟨_, rfl⟩
  obtain ⟨B6, hx6, hs6⟩ := box_made hw6
  have X6 := Lib.hid (X4.out.step (hx5.step hx6))
  have H6 := Lib.hid hw6
  have e1 : w6.cell? ⟨w5.heap.size, 2, none⟩ = some (.int .u64 D3) := B6.cell 2
  have k0 : w6.cell? ⟨w.heap.size, 0, none⟩ = some (.slice A n c) := (HB1.out.to X6.out).cell 0
  have k1 : w6.cell? ⟨w.heap.size, 1, none⟩ = some (.slice B m d) := (HB1.out.to X6.out).cell 1
  rw [hw6] at e1 k0 k1
  clear hw6 B6 hx6 hs6 hx5
  go_wp2_with fail
  rw [← H6.out]
  refine (HIt.out _ X6.out).mono ?_; rintro e w7 ⟨rfl, hx7⟩
  have b7 := HB3.out.to (X6.out.step hx7)
  have HB7 := Lib.hid b7
  have X7 := Lib.hid (X3.out.step (X6.out.step hx7))
  have f0 := b7.free 0
  have f1 := b7.free 1
  have g0 := b7.cell 0
  have g1 := b7.cell 1
  simp only [List.getElem?_toArray, List.getElem?_cons_zero, List.getElem?_cons_succ] at g0 g1
  clear hx7 b7
  rcases oo with _ | ⟨a1, a2⟩
  · unfold itV
    go_wp2_with fail
    exact bodyPost_ret (results_it2 rfl _ _ (w.heap.size + 1 + 1) #[.int .i64 0, .int .i64 0] (by rfl) (HB7.out.two _ _) rfl) rfl ⟨rfl, (Only.two _ _ _ _).new X7.out (by omega)⟩
  · unfold itV
    go_wp2_with fail
    exact bodyPost_ret (results_it2 rfl _ _ (w.heap.size + 1 + 1) #[.int .i64 a1, .int .i64 a2] (by rfl) (HB7.out.two _ _) rfl) rfl ⟨rfl, (Only.two _ _ _ _).new X7.out (by omega)⟩

end Go.Proofs.Ytjiehlhnocgneaa
