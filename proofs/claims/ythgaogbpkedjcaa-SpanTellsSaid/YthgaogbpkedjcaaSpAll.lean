/-
  Contracts of package span: All, Open.
-/
import Derived.Test.YthgaogbpkedjcaaSpColl
import Derived.Test.YthgaogbpkedjcaaGL
set_option linter.unusedVariables false
set_option linter.unusedSimpArgs false
namespace Go.Proofs.Ythgaogbpkedjcaa
open Go.RowKit

/-- What All answers. -/
def AllA (l : Row) (w : World) (e : Ending) (w' : World) : Prop := ∃ A j c, e = .returned (.tuple #[.slice A j c, .int .i64 0]) ∧ RdR w' (.slice A j c) l ∧ Ext w w'
def AllE (k : Int) (w : World) (e : Ending) (w' : World) : Prop := e = .returned (.tuple #[.slice none 0 0, .int .i64 k]) ∧ Ext w w'

set_option maxHeartbeats 1000000 in
theorem all_arg (A B : Option Addr) (n m c d : Nat) (ns : List Nd) (fs : List Int) (r low high : Int) (w : World) (h : Ar w A n B m ns fs) (hn : n ≤ 1000) (hm : m ≤ 1000) (hU : U r) (hno : ¬ (ArMay ns fs ∧ MapAt ns r)) :
    Calls Try.prog 9 #[.agg #[.slice A n c, .slice B m d], .int .u64 r, .int .i64 low, .int .i64 high] w (AllE 1 w) := by
  obtain ⟨w1, hw1⟩ : ∃ w1, w1 = w.alloc (.cells #[.slice A n c, .slice B m d] 25) := ⟨_, rfl⟩
  obtain ⟨B1, hx1, hs1⟩ := box_made hw1
  have HR := Lib.hid (trRight_is A B n m c d ns fs r w1 (h.to hx1) hn hm hU false (by simp [hno]))
  have k0 : w1.cell? ⟨w.heap.size, 0, none⟩ = some (.slice A n c) := B1.cell 0
  have k1 : w1.cell? ⟨w.heap.size, 1, none⟩ = some (.slice B m d) := B1.cell 1
  have H1 := Lib.hid hw1
  have X1 := Lib.hid hx1
  clear hw1 B1 hx1 hs1 h hno
  go_enter Try.func9, Try.ntmps9
  go_wp2_with fail
  rw [← H1.out]
  go_wp2_with fail
  refine HR.out.mono ?_; rintro e w2 ⟨rfl, hx2⟩
  have X2 := Lib.hid (X1.out.step hx2)
  clear hx2
  go_wp2_with fail
  go_ret2
  exact ⟨rfl, X2.out⟩

set_option maxHeartbeats 1000000 in
/-- The four boxes of the iterator. -/
theorem between_is (A B : Option Addr) (n m c d : Nat) (r low high : Int) (w : World) :
    Calls Try.prog 25 #[.agg #[.slice A n c, .slice B m d], .int .u64 r, .int .i64 low, .int .i64 high] w fun e w' => ∃ b4 b5 b6 b7, e = .returned (.func (.func 46) #[] #[.pointer (some ⟨b4, 0, none⟩), .pointer (some ⟨b5, 0, none⟩), .pointer (some ⟨b6, 0, none⟩), .pointer (some ⟨b7, 0, none⟩)]) ∧
      Bx w' b4 #[.slice A n c, .slice B m d] ∧ Bx w' b5 #[.int .u64 r] ∧ Bx w' b6 #[.int .i64 low] ∧ Bx w' b7 #[.int .i64 high] ∧ Ext w w' := by
  obtain ⟨w1, hw1⟩ : ∃ w1, w1 = w.alloc (.cells #[.slice A n c, .slice B m d] 25) := ⟨_, rfl⟩
  obtain ⟨w2, hw2⟩ : ∃ w2, w2 = w1.alloc (.cells #[.int .u64 r] 27) := ⟨_, rfl⟩
  obtain ⟨w3, hw3⟩ : ∃ w3, w3 = w2.alloc (.cells #[.int .i64 low] 2) := ⟨_, rfl⟩
  obtain ⟨w4, hw4⟩ : ∃ w4, w4 = w3.alloc (.cells #[.int .i64 high] 2) := ⟨_, rfl⟩
  obtain ⟨B1, hx1, hs1⟩ := box_made hw1
  obtain ⟨B2, hx2, hs2⟩ := box_made hw2
  obtain ⟨B3, hx3, hs3⟩ := box_made hw3
  obtain ⟨B4, hx4, hs4⟩ := box_made hw4
  have HB := Lib.hid (show Bx w4 w.heap.size #[.slice A n c, .slice B m d] ∧ Bx w4 (w.heap.size + 1) #[.int .u64 r] ∧ Bx w4 (w.heap.size + 1 + 1) #[.int .i64 low] ∧ Bx w4 (w.heap.size + 1 + 1 + 1) #[.int .i64 high] ∧ Ext w w4 from
    ⟨B1.to (hx2.step (hx3.step hx4)), by rw [← hs1]; exact B2.to (hx3.step hx4), by rw [← hs1, ← hs2]; exact B3.to hx4, by rw [← hs1, ← hs2, ← hs3]; exact B4, hx1.step (hx2.step (hx3.step hx4))⟩)
  have H1 := Lib.hid hw1
  have H2 := Lib.hid hw2
  have H3 := Lib.hid hw3
  have H4 := Lib.hid hw4
  clear hw1 hw2 hw3 hw4 B1 B2 B3 B4 hx1 hx2 hx3 hx4 hs1 hs2 hs3 hs4
  have hmf : ∀ (fn : Fn) (first cap : Array Value) (w : World), (Instr.makeFunc fn first cap).run Try.prog w = .ok (.func fn first cap) w := fun fn first cap w => rfl
  go_enter Try.func25, Try.ntmps25
  go_wp2_with fail
  rw [← H1.out, ← H2.out, ← H3.out, ← H4.out]
  go_ret
  exact ⟨_, _, _, _, rfl, HB.out⟩

theorem cfBetween (args : Array Value) (w : World) : (callFunc 46 args).run Try.prog w = .ok (.enter 46 args) w := by kernel_rfl

/-- What Collect makes of the iterator. -/
theorem collect_inn {A B : Option Addr} {n c m d : Nat} {ns : List Nd} {t : T} {low high : Int} {b4 b5 b6 b7 : Nat} (w : World) (hok : ∀ x ∈ ns, x.Ok) (hM : Mp ns t) (hU : U t.ref) (hRd : Rd w 16 A n (flat Nd.cells ns))
    (h4 : Bx w b4 #[.slice A n c, .slice B m d]) (h5 : Bx w b5 #[.int .u64 t.ref]) (h6 : Bx w b6 #[.int .i64 low]) (h7 : Bx w b7 #[.int .i64 high]) :
    Calls Try.prog 24 #[.func (.func 46) #[] #[.pointer (some ⟨b4, 0, none⟩), .pointer (some ⟨b5, 0, none⟩), .pointer (some ⟨b6, 0, none⟩), .pointer (some ⟨b7, 0, none⟩)]] w
      fun e w' => ∃ A j c, e = .returned (.slice A j c) ∧ RdR w' (.slice A j c) (inn t.row low high) ∧ Ext w w' := by
  obtain ⟨W, hW⟩ : ∃ W, W = w.alloc (.cells #[.slice none 0 0] 31) := ⟨_, rfl⟩
  obtain ⟨B1, hx1, hs1⟩ := box_made hW
  have hlen : (inn t.row low high).length ≤ 1000 := by
    have h1 := inn_len t.row low high
    have h2 := T.row_length t
    have h3 := hM.le
    omega
  refine (collect_is 46 _ cfBetween w (S := fun ys => ys = inn t.row low high) (Sp := fun pre => pre <+: inn t.row low high) _ hlen ?_).mono ?_
  · rw [← hW]
    exact between_stops W 4 (keeps_kx (S := fun b => b = w.heap.size) (fun b e => by omega) (hRd.to hx1) (fun q j u hq hu e => by
      obtain ⟨ad, ha, hc⟩ := hRd.2 j u hu
      rw [hq] at ha
      injection ha with ha
      subst ha
      have := World.block_lt_of_cell? w _ hc
      rw [addr_block] at this
      omega)) hok hM.rep hM.srt hU (hRd.to hx1) (h4.to hx1) (h5.to hx1) (h6.to hx1) (h7.to hx1)
  · rintro e w' ⟨v, ss, rfl, rfl, h1, h2⟩
    obtain ⟨A', j, c', rfl, h3, _⟩ := h1.sl
    exact ⟨A', j, c', rfl, h3, h2⟩

set_option maxHeartbeats 2000000 in
theorem all_is (A B : Option Addr) (n m c d : Nat) (ns : List Nd) (fs : List Int) (t : T) (low high : Int) (w : World) (h : Ar w A n B m ns fs) (hn : n ≤ 1000) (hm : m ≤ 1000) (hU : U t.ref) (hmay : ArMay ns fs) (hM : Mp ns t) :
    Calls Try.prog 9 #[.agg #[.slice A n c, .slice B m d], .int .u64 t.ref, .int .i64 low, .int .i64 high] w (AllA (inn t.row low high) w) := by
  obtain ⟨w1, hw1⟩ : ∃ w1, w1 = w.alloc (.cells #[.slice A n c, .slice B m d] 25) := ⟨_, rfl⟩
  obtain ⟨B1, hx1, hs1⟩ := box_made hw1
  have HR := Lib.hid (trRight_is A B n m c d ns fs t.ref w1 (h.to hx1) hn hm hU true (by simp only [true_iff]; exact ⟨hmay, t, hM, rfl⟩))
  have HC := Lib.hid (fun W b4 b5 b6 b7 (hW : Ext w W) h4 h5 h6 h7 => collect_inn (A := A) (B := B) (n := n) (c := c) (m := m) (d := d) (ns := ns) (t := t) (low := low) (high := high) (b4 := b4) (b5 := b5) (b6 := b6) (b7 := b7) W h.ok hM hU (h.to hW).nodes h4 h5 h6 h7)
  have k0 : w1.cell? ⟨w.heap.size, 0, none⟩ = some (.slice A n c) := B1.cell 0
  have k1 : w1.cell? ⟨w.heap.size, 1, none⟩ = some (.slice B m d) := B1.cell 1
  have H1 := Lib.hid hw1
  have X1 := Lib.hid hx1
  have HB1 := Lib.hid B1
  clear hw1 B1 hx1 hs1 h hmay hM
  generalize t.ref = r at *
  generalize inn t.row low high = q at *
  go_enter Try.func9, Try.ntmps9
  go_wp2_with fail
  rw [← H1.out]
  go_wp2_with fail
  refine HR.out.mono ?_; rintro e w2 ⟨rfl, hx2⟩
  have X2 := Lib.hid (X1.out.step hx2)
  have k0 : w2.cell? ⟨w.heap.size, 0, none⟩ = some (.slice A n c) := (HB1.out.to hx2).cell 0
  have k1 : w2.cell? ⟨w.heap.size, 1, none⟩ = some (.slice B m d) := (HB1.out.to hx2).cell 1
  clear hx2
  go_wp2_with fail
  refine (between_is A B n m c d r low high w2).mono ?_
  rintro e w3 ⟨b4, b5, b6, b7, rfl, h4, h5, h6, h7, hx3⟩
  have X3 := Lib.hid (X2.out.step hx3)
  have HC3 := Lib.hid (HC.out w3 b4 b5 b6 b7 X3.out h4 h5 h6 h7)
  clear h4 h5 h6 h7 hx3 k0 k1
  go_wp2_with fail
  refine HC3.out.mono ?_
  rintro e w4 ⟨A', j, c', rfl, h3, hx4⟩
  have HD := Lib.hid (show RdR w4 (.slice A' j c') q ∧ Ext w w4 from ⟨h3, X3.out.step hx4⟩)
  clear h3 hx4
  go_wp2_with fail
  go_ret2
  exact ⟨_, _, _, rfl, HD.out⟩

/-! ### A cursor -/
abbrev cuv (z a b : Int) (q : Bool) : Value := .agg #[.int .u64 z, .int .i64 a, .int .i64 b, .bool q]
theorem loadCu {w : World} {b : Nat} {cs : Array Value} (h : Bx w b cs) (hc : cs.size = 4) : (loadVar 29 ⟨b, 0, none⟩).run Try.prog w = .ok (.agg cs) w := by
  have hi : (Try.prog.info? 29).map (·.size) = some 4 := by kernel_rfl
  exact run_loadVar_any (P := Try.prog) w ⟨b, 0, none⟩ 29 cs _ (fun j v hv => by rw [addr_zero, h.cell j]; exact hv) Try.underlying29 rfl (by rw [hc]; exact hi)
theorem results_cu2 {fn : Func} {p u : Tmp} (h : fn.results = #[.cell p 29, .tmp u]) (tmps : Array Value) (w : World) (b : Nat) (cs : Array Value) (hp : tmps.getD p undef = .pointer (some ⟨b, 0, none⟩)) (hB : Bx w b cs) (hc : cs.size = 4) :
    (results fn tmps).run Try.prog w = .ok (.tuple #[.agg cs, tmps.getD u undef]) w := by
  have hp' : tmps[p]?.getD undef = .pointer (some ⟨b, 0, none⟩) := by simpa using hp
  simp [results, h, hp', asAddr, loadCu hB hc]
theorem results_cu3 {fn : Func} {p q u : Tmp} (h : fn.results = #[.cell p 29, .cell q 40, .tmp u]) (tmps : Array Value) (w : World) (b b' : Nat) (cs cs' : Array Value) (hp : tmps.getD p undef = .pointer (some ⟨b, 0, none⟩)) (hB : Bx w b cs) (hc : cs.size = 4)
    (hq : tmps.getD q undef = .pointer (some ⟨b', 0, none⟩)) (hB' : Bx w b' cs') (hc' : cs'.size = 2) :
    (results fn tmps).run Try.prog w = .ok (.tuple #[.agg cs, .agg cs', tmps.getD u undef]) w := by
  have hp' : tmps[p]?.getD undef = .pointer (some ⟨b, 0, none⟩) := by simpa using hp
  have hq' : tmps[q]?.getD undef = .pointer (some ⟨b', 0, none⟩) := by simpa using hq
  simp [results, h, hp', hq', asAddr, loadCu hB hc, loadIt hB' hc']
theorem Bx.four {w : World} {b : Nat} {u v x y : Value} (h : Bx w b #[u, v, x, y]) (p q r s : Value) : Bx ((((w.setCell ⟨b, 0, none⟩ p).setCell ⟨b, 1, none⟩ q).setCell ⟨b, 2, none⟩ r).setCell ⟨b, 3, none⟩ s) b #[p, q, r, s] :=
  ((((h.set (j := 0) (by simp) p).set (j := 1) (by simp) q).set (j := 2) (by simp) r).set (j := 3) (by simp) s)
theorem Only.four (w : World) (b : Nat) (p q r s : Value) : Only b w ((((w.setCell ⟨b, 0, none⟩ p).setCell ⟨b, 1, none⟩ q).setCell ⟨b, 2, none⟩ r).setCell ⟨b, 3, none⟩ s) := ((((Only.refl b w).set _ _).set _ _).set _ _).set _ _

/-- What Open answers. -/
def OpenA (z a b k : Int) (w : World) (e : Ending) (w' : World) : Prop := e = .returned (.tuple #[cuv z a b false, .int .i64 k]) ∧ Ext w w'

set_option maxHeartbeats 1000000 in
theorem open_any (A B : Option Addr) (n m c d : Nat) (ns : List Nd) (fs : List Int) (r low high : Int) (w : World) (h : Ar w A n B m ns fs) (hn : n ≤ 1000) (hm : m ≤ 1000) (hU : U r) (b : Bool) (hb : b = true ↔ ArMay ns fs ∧ MapAt ns r) :
    Calls Try.prog 10 #[.agg #[.slice A n c, .slice B m d], .int .u64 r, .int .i64 low, .int .i64 high] w (if b then OpenA r low high 0 w else OpenA 0 0 0 1 w) := by
  obtain ⟨w1, hw1⟩ : ∃ w1, w1 = w.alloc (.cells #[.slice A n c, .slice B m d] 25) := ⟨_, rfl⟩
  obtain ⟨w2, hw2⟩ : ∃ w2, w2 = w1.alloc (.cells #[.int .u64 0, .int .i64 0, .int .i64 0, .bool false] 29) := ⟨_, rfl⟩
  obtain ⟨B1, hx1, hs1⟩ := box_made hw1
  obtain ⟨B2, hx2, hs2⟩ := box_made hw2
  rw [hs1] at B2
  have HR := Lib.hid (trRight_is A B n m c d ns fs r w2 (h.to (hx1.step hx2)) hn hm hU b hb)
  have k0 : w2.cell? ⟨w.heap.size, 0, none⟩ = some (.slice A n c) := (B1.to hx2).cell 0
  have k1 : w2.cell? ⟨w.heap.size, 1, none⟩ = some (.slice B m d) := (B1.to hx2).cell 1
  have H1 := Lib.hid hw1
  have H2 := Lib.hid hw2
  have HB2 := Lib.hid B2
  have X2 := Lib.hid (hx1.step hx2)
  clear hw1 hw2 B1 B2 hx1 hx2 hs1 hs2 h hb
  cases b with
  | true =>
    rw [if_pos rfl]
    go_enter Try.func10, Try.ntmps10
    go_wp2_with fail
    rw [← H1.out, ← H2.out]
    go_wp2_with fail
    refine HR.out.mono ?_; rintro e w3 ⟨rfl, hx3⟩
    have X3 := Lib.hid (X2.out.step hx3)
    have b3 := HB2.out.to hx3
    have HB3 := Lib.hid b3
    have f0 := b3.free 0
    have f1 := b3.free 1
    have f2 := b3.free 2
    have f3 := b3.free 3
    have g0 := b3.cell 0
    have g1 := b3.cell 1
    have g2 := b3.cell 2
    have g3 := b3.cell 3
    simp only [List.getElem?_toArray, List.getElem?_cons_zero, List.getElem?_cons_succ] at g0 g1 g2 g3
    clear hx3 b3
    go_wp2_with fail
    exact bodyPost_ret (results_cu2 rfl _ _ (w.heap.size + 1) #[.int .u64 r, .int .i64 low, .int .i64 high, .bool false] (by rfl) (HB3.out.four _ _ _ _) rfl) rfl ⟨rfl, (Only.four _ _ _ _ _ _).new X3.out (by omega)⟩
  | false =>
    rw [if_neg (by decide)]
    go_enter Try.func10, Try.ntmps10
    go_wp2_with fail
    rw [← H1.out, ← H2.out]
    go_wp2_with fail
    refine HR.out.mono ?_; rintro e w3 ⟨rfl, hx3⟩
    have X3 := Lib.hid (X2.out.step hx3)
    have b3 := HB2.out.to hx3
    have HB3 := Lib.hid b3
    have f0 := b3.free 0
    have f1 := b3.free 1
    have f2 := b3.free 2
    have f3 := b3.free 3
    have g0 := b3.cell 0
    have g1 := b3.cell 1
    have g2 := b3.cell 2
    have g3 := b3.cell 3
    simp only [List.getElem?_toArray, List.getElem?_cons_zero, List.getElem?_cons_succ] at g0 g1 g2 g3
    clear hx3 b3
    go_wp2_with fail
    exact bodyPost_ret (results_cu2 rfl _ _ (w.heap.size + 1) #[.int .u64 0, .int .i64 0, .int .i64 0, .bool false] (by rfl) (HB3.out.four _ _ _ _) rfl) rfl ⟨rfl, (Only.four _ _ _ _ _ _).new X3.out (by omega)⟩

end Go.Proofs.Ythgaogbpkedjcaa
