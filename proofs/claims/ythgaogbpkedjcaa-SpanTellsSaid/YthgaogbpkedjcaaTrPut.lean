/-
  Contracts: Put of package treap.
-/
import Derived.Test.YthgaogbpkedjcaaTrCopyP
import Derived.Test.YthgaogbpkedjcaaGB
set_option linter.unusedVariables false
set_option linter.unusedSimpArgs false
namespace Go.Proofs.Ythgaogbpkedjcaa
open Go.RowKit

/-- What a call that makes a map answers. -/
def ResA (ns : List Nd) (fs : List Int) (c : Nat) (l : Row) (w : World) (e : Ending) (w' : World) : Prop :=
  ((e = .returned (.tuple #[.agg #[.slice none 0 0, .slice none 0 0], .int .u64 0, .int .i64 2]) ∧ fs.length < c) ∨
    ∃ (A : Option Addr) (n c' : Nat) (B : Option Addr) (m d : Nat) (ns' : List Nd) (fs' : List Int) (z : Int), e = .returned (.tuple #[.agg #[.slice A n c', .slice B m d], .int .u64 z, .int .i64 0]) ∧ Ar w' A n B m ns' fs' ∧ ArMay ns' fs' ∧ Gr ns fs ns' fs' c ∧ U z ∧ IsP ns' z l) ∧ Ext w w'
/-- .. and what a call that fails does. -/
def ErrA (k : Int) (w : World) (e : Ending) (w' : World) : Prop := e = .returned (.tuple #[.agg #[.slice none 0 0, .slice none 0 0], .int .u64 0, .int .i64 k]) ∧ Ext w w'
/-- An arena's rows lie in no block that holds no number. -/
theorem Ar.past {W W' : World} {A B : Option Addr} {n m b : Nat} {ns : List Nd} {fs : List Int} {cs : Array Value} (h : Ar W A n B m ns fs) (hb : Bx W b cs) (hcs : ∀ (j : Nat) (k : IntKind) (z : Int), cs[j]? ≠ some (Value.int k z)) (ho : Only b W W') : Ar W' A n B m ns fs := by
  have hno : ∀ (q : Addr) (k : IntKind) (z : Int), W.cell? q = some (.int k z) → q.block ≠ b := fun q k z hq e => by
    obtain ⟨qb, qo, qs⟩ := q
    simp only at e
    subst e
    cases qs with
    | none => rw [hb.cell qo] at hq; exact hcs _ _ _ hq
    | some x =>
      unfold World.cell? at hq
      simp only [Option.isSome_some, if_true] at hq
      split at hq <;> cases hq
  refine ⟨?_, ?_, h.ok⟩
  · rcases Nat.eq_zero_or_pos n with rfl | hn
    · have hl := h.len
      have : ns = [] := List.eq_nil_of_length_eq_zero hl
      subst this
      exact Rd.nil _ _ _
    · obtain ⟨x, hx⟩ : ∃ x, ns[0]? = some x := ⟨_, List.getElem?_eq_getElem (by have := h.len; omega)⟩
      obtain ⟨ad, rfl, hn0⟩ := h.nodeAt hx
      refine ho.rd h.nodes fun q hq => ?_
      injection hq with hq
      subst hq
      have h0 := hno _ _ _ (hn0.kc)
      rwa [addr_block] at h0
  · rcases Nat.eq_zero_or_pos m with rfl | hm
    · have hl := h.lenF
      have : fs = [] := List.eq_nil_of_length_eq_zero hl
      subst this
      exact Rd.nil _ _ _
    · obtain ⟨y, hy⟩ : ∃ y, fs[0]? = some y := ⟨_, List.getElem?_eq_getElem (by have := h.lenF; omega)⟩
      obtain ⟨ad, rfl, hc⟩ := h.freeAt hy
      refine ho.rd h.free fun q hq => ?_
      injection hq with hq
      subst hq
      have h0 := hno _ _ _ hc
      rwa [addr_block] at h0
theorem noInt {u v : Value} (hu : ∀ k z, u ≠ .int k z) (hv : ∀ k z, v ≠ .int k z) : ∀ (j : Nat) (k : IntKind) (z : Int), (#[u, v] : Array Value)[j]? ≠ some (.int k z) := fun j k z e => by
  rcases j with _ | _ | j
  · simp at e; exact hu _ _ e
  · simp at e; exact hv _ _ e
  · simp at e
abbrev KeyIn (key : Int) : Prop := -1073741824 ≤ key ∧ key ≤ 1073741824

set_option maxHeartbeats 2000000 in
theorem trPut_arg (A B : Option Addr) (n m c d : Nat) (ns : List Nd) (fs : List Int) (r : Int) (key v : Int) (w : World) (h : Ar w A n B m ns fs) (hn : n ≤ 1000) (hm : m ≤ 1000) (hU : U r) (hno : ¬ (ArMay ns fs ∧ MapAt ns r)) :
    Calls Try.prog 21 #[.agg #[.slice A n c, .slice B m d], .int .u64 r, .int .i64 key, .int .i64 v] w (ErrA 1 w) := by
  obtain ⟨w1, hw1⟩ : ∃ w1, w1 = w.alloc (.cells #[.slice A n c, .slice B m d] 25) := ⟨_, rfl⟩
  obtain ⟨w2, hw2⟩ : ∃ w2, w2 = w1.alloc (.cells #[.int .i64 key] 2) := ⟨_, rfl⟩
  obtain ⟨w3, hw3⟩ : ∃ w3, w3 = w2.alloc (.cells #[.int .i64 v] 2) := ⟨_, rfl⟩
  obtain ⟨w4, hw4⟩ : ∃ w4, w4 = w3.alloc (.cells #[.slice none 0 0, .slice none 0 0] 25) := ⟨_, rfl⟩
  obtain ⟨B1, hx1, hs1⟩ := box_made hw1
  obtain ⟨B2, hx2, hs2⟩ := box_made hw2
  obtain ⟨B3, hx3, hs3⟩ := box_made hw3
  obtain ⟨B4, hx4, hs4⟩ := box_made hw4
  rw [hs1] at B2
  rw [hs2, hs1] at B3
  rw [hs3, hs2, hs1] at B4
  have HB1 := Lib.hid (B1.to (hx2.step (hx3.step hx4)))
  have HB2 := Lib.hid (B2.to (hx3.step hx4))
  have HB3 := Lib.hid (B3.to hx4)
  have HB4 := Lib.hid B4
  have X4 := Lib.hid (hx1.step (hx2.step (hx3.step hx4)))
  have H1 := Lib.hid hw1
  have H2 := Lib.hid hw2
  have H3 := Lib.hid hw3
  have H4 := Lib.hid hw4
  have HS4 := Lib.hid (show w4.heap.size = w.heap.size + 4 by omega)
  have HA := Lib.hid (h.to X4.out)
  have k0 : w4.cell? ⟨w.heap.size, 0, none⟩ = some (.slice A n c) := HB1.out.cell 0
  have k1 : w4.cell? ⟨w.heap.size, 1, none⟩ = some (.slice B m d) := HB1.out.cell 1
  have hge := Lib.hid (show w.heap.size ≤ w.heap.size + 1 + 1 + 1 by omega)
  have HR := Lib.hid (trRight_is A B n m c d ns fs r w4 HA.out hn hm hU false (by simp [hno]))
  clear hw1 hw2 hw3 hw4 B1 B2 B3 B4 hx1 hx2 hx3 hx4 hs1 hs2 hs3 hs4 h hno
  go_enter Try.func21, Try.ntmps21
  go_wp2_with fail
  rw [← H1.out, ← H2.out, ← H3.out, ← H4.out]
  go_wp2_with fail
  refine HR.out.mono ?_; rintro e w5 ⟨rfl, hx5⟩
  have b4 := Lib.hid (HB4.out.to hx5)
  have X5 := Lib.hid (X4.out.step hx5)
  have e1 : w5.cell? ⟨w.heap.size + 1, 0, none⟩ = some (.int .i64 key) := (HB2.out.to hx5).cell 0
  have k0 : w5.cell? ⟨w.heap.size, 0, none⟩ = some (.slice A n c) := (HB1.out.to hx5).cell 0
  have k1 : w5.cell? ⟨w.heap.size, 1, none⟩ = some (.slice B m d) := (HB1.out.to hx5).cell 1
  have HX5 := Lib.hid hx5
  clear hx5
  go_wp2_with (first
    | (refine wpList_store_ar (by rfl) (.tmp 8) (.tmp 16) (by rfl) (w.heap.size + 1 + 1 + 1) (by rfl) (.slice none 0 0) (.slice none 0 0) (by rfl) rfl rfl _ b4.out (by simp) ?_
       intro w9 B9 O9))
  refine bodyPost_ret (results_ar3 rfl _ _ (w.heap.size + 1 + 1 + 1) #[.slice none 0 0, .slice none 0 0] (by rfl) B9 rfl) rfl ⟨rfl, ?_⟩
  exact O9.new X5.out hge.out

set_option maxHeartbeats 2000000 in
theorem trPut_far (A B : Option Addr) (n m c d : Nat) (ns : List Nd) (fs : List Int) (t : T) (key v : Int) (w : World) (h : Ar w A n B m ns fs) (hn : n ≤ 1000) (hm : m ≤ 1000) (hU : U t.ref) (hmay : ArMay ns fs) (hM : Mp ns t) (hk : ¬ KeyIn key) :
    Calls Try.prog 21 #[.agg #[.slice A n c, .slice B m d], .int .u64 t.ref, .int .i64 key, .int .i64 v] w (ErrA 5 w) := by
  obtain ⟨w1, hw1⟩ : ∃ w1, w1 = w.alloc (.cells #[.slice A n c, .slice B m d] 25) := ⟨_, rfl⟩
  obtain ⟨w2, hw2⟩ : ∃ w2, w2 = w1.alloc (.cells #[.int .i64 key] 2) := ⟨_, rfl⟩
  obtain ⟨w3, hw3⟩ : ∃ w3, w3 = w2.alloc (.cells #[.int .i64 v] 2) := ⟨_, rfl⟩
  obtain ⟨w4, hw4⟩ : ∃ w4, w4 = w3.alloc (.cells #[.slice none 0 0, .slice none 0 0] 25) := ⟨_, rfl⟩
  obtain ⟨B1, hx1, hs1⟩ := box_made hw1
  obtain ⟨B2, hx2, hs2⟩ := box_made hw2
  obtain ⟨B3, hx3, hs3⟩ := box_made hw3
  obtain ⟨B4, hx4, hs4⟩ := box_made hw4
  rw [hs1] at B2
  rw [hs2, hs1] at B3
  rw [hs3, hs2, hs1] at B4
  have HB1 := Lib.hid (B1.to (hx2.step (hx3.step hx4)))
  have HB2 := Lib.hid (B2.to (hx3.step hx4))
  have HB3 := Lib.hid (B3.to hx4)
  have HB4 := Lib.hid B4
  have X4 := Lib.hid (hx1.step (hx2.step (hx3.step hx4)))
  have H1 := Lib.hid hw1
  have H2 := Lib.hid hw2
  have H3 := Lib.hid hw3
  have H4 := Lib.hid hw4
  have HS4 := Lib.hid (show w4.heap.size = w.heap.size + 4 by omega)
  have HA := Lib.hid (h.to X4.out)
  have k0 : w4.cell? ⟨w.heap.size, 0, none⟩ = some (.slice A n c) := HB1.out.cell 0
  have k1 : w4.cell? ⟨w.heap.size, 1, none⟩ = some (.slice B m d) := HB1.out.cell 1
  have hge := Lib.hid (show w.heap.size ≤ w.heap.size + 1 + 1 + 1 by omega)
  have HR := Lib.hid (trRight_is A B n m c d ns fs t.ref w4 HA.out hn hm hU true (by simp only [true_iff]; exact ⟨hmay, t, hM, rfl⟩))
  have HSz := Lib.hid (fun W (hW : Ext w4 W) => sizeOf_is A B n c m d ns t.ref W hU.1 hU.2 (HA.out.to hW).nodes)
  rw [rep_s hM.rep] at HSz
  have HFd := Lib.hid (fun W (hW : Ext w4 W) => find_is A B n c m d ns key t W hM.rep hM.le hU (HA.out.to hW).nodes h.ok)
  have HMay := Lib.hid hmay
  have HMp := Lib.hid hM
  have hsz := hM.le
  clear hw1 hw2 hw3 hw4 B1 B2 B3 B4 hx1 hx2 hx3 hx4 hs1 hs2 hs3 hs4 h hmay hM
  generalize t.ref = r at *
  by_cases h1 : key < -1073741824
  · have d1 : decide (key < -1073741824) = true := by simpa using h1
    clear hk
    go_enter Try.func21, Try.ntmps21
    go_wp2_with fail
    rw [← H1.out, ← H2.out, ← H3.out, ← H4.out]
    go_wp2_with fail
    refine HR.out.mono ?_; rintro e w5 ⟨rfl, hx5⟩
    have b4 := Lib.hid (HB4.out.to hx5)
    have X5 := Lib.hid (X4.out.step hx5)
    have e1 : w5.cell? ⟨w.heap.size + 1, 0, none⟩ = some (.int .i64 key) := (HB2.out.to hx5).cell 0
    have k0 : w5.cell? ⟨w.heap.size, 0, none⟩ = some (.slice A n c) := (HB1.out.to hx5).cell 0
    have k1 : w5.cell? ⟨w.heap.size, 1, none⟩ = some (.slice B m d) := (HB1.out.to hx5).cell 1
    have HX5 := Lib.hid hx5
    clear hx5
    clear hsz
    have f0 := b4.out.free 0
    have f1 := b4.out.free 1
    have g0 := b4.out.cell 0
    have g1 := b4.out.cell 1
    simp only [List.getElem?_toArray, List.getElem?_cons_zero, List.getElem?_cons_succ] at g0 g1
    go_wp2_with fail
    refine bodyPost_ret (results_ar3 rfl _ _ (w.heap.size + 1 + 1 + 1) #[.slice none 0 0, .slice none 0 0] (by rfl) (b4.out.two _ _) rfl) rfl ⟨rfl, (Only.two _ _ _ _).new X5.out hge.out⟩
  · have h2 : 1073741824 < key := by
      by_cases h2 : key ≤ 1073741824
      · exact absurd ⟨by omega, h2⟩ hk
      · omega
    have d1 : decide (key < -1073741824) = false := by simpa using h1
    have d2 : decide (1073741824 < key) = true := by simpa using h2
    clear hk
    go_enter Try.func21, Try.ntmps21
    go_wp2_with fail
    rw [← H1.out, ← H2.out, ← H3.out, ← H4.out]
    go_wp2_with fail
    refine HR.out.mono ?_; rintro e w5 ⟨rfl, hx5⟩
    have b4 := Lib.hid (HB4.out.to hx5)
    have X5 := Lib.hid (X4.out.step hx5)
    have e1 : w5.cell? ⟨w.heap.size + 1, 0, none⟩ = some (.int .i64 key) := (HB2.out.to hx5).cell 0
    have k0 : w5.cell? ⟨w.heap.size, 0, none⟩ = some (.slice A n c) := (HB1.out.to hx5).cell 0
    have k1 : w5.cell? ⟨w.heap.size, 1, none⟩ = some (.slice B m d) := (HB1.out.to hx5).cell 1
    have HX5 := Lib.hid hx5
    clear hx5
    clear hsz
    have f0 := b4.out.free 0
    have f1 := b4.out.free 1
    have g0 := b4.out.cell 0
    have g1 := b4.out.cell 1
    simp only [List.getElem?_toArray, List.getElem?_cons_zero, List.getElem?_cons_succ] at g0 g1
    go_wp2_with fail
    refine bodyPost_ret (results_ar3 rfl _ _ (w.heap.size + 1 + 1 + 1) #[.slice none 0 0, .slice none 0 0] (by rfl) (b4.out.two _ _) rfl) rfl ⟨rfl, (Only.two _ _ _ _).new X5.out hge.out⟩

set_option maxHeartbeats 2000000 in
set_option maxRecDepth 100000 in
theorem trPut_more (A B : Option Addr) (n m c d : Nat) (ns : List Nd) (fs : List Int) (t : T) (key v : Int) (w : World) (h : Ar w A n B m ns fs) (hn : n ≤ 1000) (hm : m ≤ 1000) (hU : U t.ref) (hmay : ArMay ns fs) (hM : Mp ns t) (hk : KeyIn key) (h200 : t.size = 200) (hno : ¬ HasK t.row key) :
    Calls Try.prog 21 #[.agg #[.slice A n c, .slice B m d], .int .u64 t.ref, .int .i64 key, .int .i64 v] w (ErrA 5 w) := by
  obtain ⟨w1, hw1⟩ : ∃ w1, w1 = w.alloc (.cells #[.slice A n c, .slice B m d] 25) := ⟨_, rfl⟩
  obtain ⟨w2, hw2⟩ : ∃ w2, w2 = w1.alloc (.cells #[.int .i64 key] 2) := ⟨_, rfl⟩
  obtain ⟨w3, hw3⟩ : ∃ w3, w3 = w2.alloc (.cells #[.int .i64 v] 2) := ⟨_, rfl⟩
  obtain ⟨w4, hw4⟩ : ∃ w4, w4 = w3.alloc (.cells #[.slice none 0 0, .slice none 0 0] 25) := ⟨_, rfl⟩
  obtain ⟨B1, hx1, hs1⟩ := box_made hw1
  obtain ⟨B2, hx2, hs2⟩ := box_made hw2
  obtain ⟨B3, hx3, hs3⟩ := box_made hw3
  obtain ⟨B4, hx4, hs4⟩ := box_made hw4
  rw [hs1] at B2
  rw [hs2, hs1] at B3
  rw [hs3, hs2, hs1] at B4
  have HB1 := Lib.hid (B1.to (hx2.step (hx3.step hx4)))
  have HB2 := Lib.hid (B2.to (hx3.step hx4))
  have HB3 := Lib.hid (B3.to hx4)
  have HB4 := Lib.hid B4
  have X4 := Lib.hid (hx1.step (hx2.step (hx3.step hx4)))
  have H1 := Lib.hid hw1
  have H2 := Lib.hid hw2
  have H3 := Lib.hid hw3
  have H4 := Lib.hid hw4
  have HS4 := Lib.hid (show w4.heap.size = w.heap.size + 4 by omega)
  have HA := Lib.hid (h.to X4.out)
  have k0 : w4.cell? ⟨w.heap.size, 0, none⟩ = some (.slice A n c) := HB1.out.cell 0
  have k1 : w4.cell? ⟨w.heap.size, 1, none⟩ = some (.slice B m d) := HB1.out.cell 1
  have hge := Lib.hid (show w.heap.size ≤ w.heap.size + 1 + 1 + 1 by omega)
  have HR := Lib.hid (trRight_is A B n m c d ns fs t.ref w4 HA.out hn hm hU true (by simp only [true_iff]; exact ⟨hmay, t, hM, rfl⟩))
  have HSz := Lib.hid (fun W (hW : Ext w4 W) => sizeOf_is A B n c m d ns t.ref W hU.1 hU.2 (HA.out.to hW).nodes)
  rw [rep_s hM.rep] at HSz
  have HFd := Lib.hid (fun W (hW : Ext w4 W) => find_is A B n c m d ns key t W hM.rep hM.le hU (HA.out.to hW).nodes h.ok)
  have HMay := Lib.hid hmay
  have HMp := Lib.hid hM
  have hsz := hM.le
  have hsub : t.sub key = .nil := by
    rcases sub_is hM.srt key with ⟨e, _⟩ | ⟨_, _, v, _, _, hmem⟩
    · exact e
    · exact absurd ⟨v, hmem⟩ hno
  rw [hsub, show T.nil.ref = 0 from rfl] at HFd
  rw [h200] at HSz
  obtain ⟨hk1, hk2⟩ := hk
  clear hw1 hw2 hw3 hw4 B1 B2 B3 B4 hx1 hx2 hx3 hx4 hs1 hs2 hs3 hs4 h hmay hM hno hsub h200 hsz
  generalize t.ref = r at *
  go_enter Try.func21, Try.ntmps21
  go_wp2_with fail
  rw [← H1.out, ← H2.out, ← H3.out, ← H4.out]
  go_wp2_with fail
  refine HR.out.mono ?_; rintro e w5 ⟨rfl, hx5⟩
  have b4 := Lib.hid (HB4.out.to hx5)
  have X5 := Lib.hid (X4.out.step hx5)
  have e1 : w5.cell? ⟨w.heap.size + 1, 0, none⟩ = some (.int .i64 key) := (HB2.out.to hx5).cell 0
  have k0 : w5.cell? ⟨w.heap.size, 0, none⟩ = some (.slice A n c) := (HB1.out.to hx5).cell 0
  have k1 : w5.cell? ⟨w.heap.size, 1, none⟩ = some (.slice B m d) := (HB1.out.to hx5).cell 1
  have HX5 := Lib.hid hx5
  clear hx5
  go_wp2_with fail
  refine (HSz.out _ HX5.out).mono ?_; rintro e w6 ⟨rfl, hx6⟩
  have HX6 := Lib.hid (HX5.out.step hx6)
  clear hx6
  have e1 : w6.cell? ⟨w.heap.size + 1, 0, none⟩ = some (.int .i64 key) := (HB2.out.to HX6.out).cell 0
  have k0 : w6.cell? ⟨w.heap.size, 0, none⟩ = some (.slice A n c) := (HB1.out.to HX6.out).cell 0
  have k1 : w6.cell? ⟨w.heap.size, 1, none⟩ = some (.slice B m d) := (HB1.out.to HX6.out).cell 1
  go_wp2_with fail
  refine (HFd.out _ HX6.out).mono ?_; rintro e w7 ⟨rfl, hx7⟩
  have HX7 := Lib.hid (HX6.out.step hx7)
  clear hx7
  go_wp2_with (first
    | (refine wpList_store_ar (by rfl) (.tmp 8) (.tmp 36) (by rfl) (w.heap.size + 1 + 1 + 1) (by rfl) (.slice none 0 0) (.slice none 0 0) (by rfl) rfl rfl _ (HB4.out.to HX7.out) (by simp) ?_
       intro w9 B9 O9))
  refine bodyPost_ret (results_ar3 rfl _ _ (w.heap.size + 1 + 1 + 1) #[.slice none 0 0, .slice none 0 0] (by rfl) B9 rfl) rfl ⟨rfl, ?_⟩
  exact O9.new (X4.out.step HX7.out) hge.out

set_option maxHeartbeats 4000000 in
set_option maxRecDepth 100000 in
theorem trPut_is (A B : Option Addr) (n m c d : Nat) (ns : List Nd) (fs : List Int) (t : T) (key v : Int) (w : World) (h : Ar w A n B m ns fs) (hn : n ≤ 1000) (hm : m ≤ 1000) (hU : U t.ref) (hmay : ArMay ns fs) (hM : Mp ns t) (hk : KeyIn key) (hin : t.size = 200 → HasK t.row key) :
    Calls Try.prog 21 #[.agg #[.slice A n c, .slice B m d], .int .u64 t.ref, .int .i64 key, .int .i64 v] w (ResA ns fs (t.size + 1) (putR t.row key v) w) := by
  obtain ⟨w1, hw1⟩ : ∃ w1, w1 = w.alloc (.cells #[.slice A n c, .slice B m d] 25) := ⟨_, rfl⟩
  obtain ⟨w2, hw2⟩ : ∃ w2, w2 = w1.alloc (.cells #[.int .i64 key] 2) := ⟨_, rfl⟩
  obtain ⟨w3, hw3⟩ : ∃ w3, w3 = w2.alloc (.cells #[.int .i64 v] 2) := ⟨_, rfl⟩
  obtain ⟨w4, hw4⟩ : ∃ w4, w4 = w3.alloc (.cells #[.slice none 0 0, .slice none 0 0] 25) := ⟨_, rfl⟩
  obtain ⟨B1, hx1, hs1⟩ := box_made hw1
  obtain ⟨B2, hx2, hs2⟩ := box_made hw2
  obtain ⟨B3, hx3, hs3⟩ := box_made hw3
  obtain ⟨B4, hx4, hs4⟩ := box_made hw4
  rw [hs1] at B2
  rw [hs2, hs1] at B3
  rw [hs3, hs2, hs1] at B4
  have HB1 := Lib.hid (B1.to (hx2.step (hx3.step hx4)))
  have HB2 := Lib.hid (B2.to (hx3.step hx4))
  have HB3 := Lib.hid (B3.to hx4)
  have HB4 := Lib.hid B4
  have X4 := Lib.hid (hx1.step (hx2.step (hx3.step hx4)))
  have H1 := Lib.hid hw1
  have H2 := Lib.hid hw2
  have H3 := Lib.hid hw3
  have H4 := Lib.hid hw4
  have HS4 := Lib.hid (show w4.heap.size = w.heap.size + 4 by omega)
  have HA := Lib.hid (h.to X4.out)
  have k0 : w4.cell? ⟨w.heap.size, 0, none⟩ = some (.slice A n c) := HB1.out.cell 0
  have k1 : w4.cell? ⟨w.heap.size, 1, none⟩ = some (.slice B m d) := HB1.out.cell 1
  have hge := Lib.hid (show w.heap.size ≤ w.heap.size + 1 + 1 + 1 by omega)
  have HR := Lib.hid (trRight_is A B n m c d ns fs t.ref w4 HA.out hn hm hU true (by simp only [true_iff]; exact ⟨hmay, t, hM, rfl⟩))
  have HSz := Lib.hid (fun W (hW : Ext w4 W) => sizeOf_is A B n c m d ns t.ref W hU.1 hU.2 (HA.out.to hW).nodes)
  rw [rep_s hM.rep] at HSz
  have HFd := Lib.hid (fun W (hW : Ext w4 W) => find_is A B n c m d ns key t W hM.rep hM.le hU (HA.out.to hW).nodes h.ok)
  have HMay := Lib.hid hmay
  have HMp := Lib.hid hM
  have hsz := hM.le
  have hsub : t.size = 200 → (t.sub key).ref ≠ 0 := fun h200 => by
    rcases sub_is hM.srt key with ⟨_, hno⟩ | ⟨r, l, v, u, e, hmem⟩
    · exact absurd (hin h200) hno
    · have := sub_rep hM.rep key
      rw [e] at this ⊢
      exact this.ref_nz
  obtain ⟨hk1, hk2⟩ := hk
  clear hw1 hw2 hw3 hw4 B1 B2 B3 B4 hx1 hx2 hx3 hx4 hs1 hs2 hs3 hs4 h hmay hM hin
  obtain ⟨r, hr⟩ : ∃ r, t.ref = r := ⟨_, rfl⟩
  have HREF := Lib.hid hr
  rw [hr] at HR HSz HFd ⊢
  obtain ⟨q, hq⟩ : ∃ q, q = (t.sub key).ref := ⟨_, rfl⟩
  rw [← hq] at HFd hsub
  have HSUB := Lib.hid hsub
  clear hr hq hsub
  go_enter Try.func21, Try.ntmps21
  go_wp2_with fail
  rw [← H1.out, ← H2.out, ← H3.out, ← H4.out]
  go_wp2_with fail
  refine HR.out.mono ?_; rintro e w5 ⟨rfl, hx5⟩
  have b4 := Lib.hid (HB4.out.to hx5)
  have X5 := Lib.hid (X4.out.step hx5)
  have e1 : w5.cell? ⟨w.heap.size + 1, 0, none⟩ = some (.int .i64 key) := (HB2.out.to hx5).cell 0
  have k0 : w5.cell? ⟨w.heap.size, 0, none⟩ = some (.slice A n c) := (HB1.out.to hx5).cell 0
  have k1 : w5.cell? ⟨w.heap.size, 1, none⟩ = some (.slice B m d) := (HB1.out.to hx5).cell 1
  have HX5 := Lib.hid hx5
  clear hx5
  go_wp2_with fail
  refine (HSz.out _ HX5.out).mono ?_; rintro e w6 ⟨rfl, hx6⟩
  have HX6 := Lib.hid (HX5.out.step hx6)
  clear hx6
  have e1 : w6.cell? ⟨w.heap.size + 1, 0, none⟩ = some (.int .i64 key) := (HB2.out.to HX6.out).cell 0
  have k0 : w6.cell? ⟨w.heap.size, 0, none⟩ = some (.slice A n c) := (HB1.out.to HX6.out).cell 0
  have k1 : w6.cell? ⟨w.heap.size, 1, none⟩ = some (.slice B m d) := (HB1.out.to HX6.out).cell 1
  by_cases h200 : t.size = 200
  · have hq0 : (q == 0) = false := by simp [HSUB.out h200]
    have h200' : ((t.size : Int) == 200) = true := by simp; omega
    go_wp2_with fail
    refine (HFd.out _ HX6.out).mono ?_; rintro e w7 ⟨rfl, hx7⟩
    have HX7 := Lib.hid (HX6.out.step hx7)
    clear hx7
    have e1 : w7.cell? ⟨w.heap.size + 1, 0, none⟩ = some (.int .i64 key) := (HB2.out.to HX7.out).cell 0
    have k0 : w7.cell? ⟨w.heap.size, 0, none⟩ = some (.slice A n c) := (HB1.out.to HX7.out).cell 0
    have k1 : w7.cell? ⟨w.heap.size, 1, none⟩ = some (.slice B m d) := (HB1.out.to HX7.out).cell 1
    clear h200 h200'
    go_wp2_with fail
    refine (makerOf_is A B n m c d ns fs _ (HA.out.to HX7.out) HMay.out).mono ?_
    rintro e w8 ⟨b, rfl, hb8, hM8, hx8⟩
    obtain ⟨w9, hw9⟩ : ∃ w9, w9 = w8.alloc (.cells #[.pointer (some ⟨b, 0, none⟩)] 77) := ⟨_, rfl⟩
    obtain ⟨B9, hx9, hs9⟩ := box_made hw9
    have HX9 := Lib.hid (HX7.out.step (hx8.step hx9))
    have hlt8 := Lib.hid (show w.heap.size + 4 ≤ b ∧ b < w8.heap.size from ⟨by have := HX7.out.size; have := HS4.out; omega, hM8.lt⟩)
    have HV := Lib.hid (show PutV w9 b (w.heap.size + 1) w8.heap.size (w.heap.size + 1 + 1) key v from
      ⟨HB2.out.to HX9.out, B9, HB3.out.to HX9.out, by have := hlt8.out; omega, by have := hlt8.out; omega, by have := hlt8.out; omega⟩)
    have HC := Lib.hid (copiedP_is b (w.heap.size + 1) w8.heap.size (w.heap.size + 1 + 1) key v t ns fs 0 w9 (hM8.to hx9) HV.out HMp.out.rep HMp.out.srt HMp.out.hp HMp.out.le hU)
    rw [HREF.out] at HC
    have e1 : w9.cell? ⟨w.heap.size + 1, 0, none⟩ = some (.int .i64 key) := (HB2.out.to HX9.out).cell 0
    have e2 : w9.cell? ⟨w8.heap.size, 0, none⟩ = some (.pointer (some ⟨b, 0, none⟩)) := B9.cell 0
    have H9 := Lib.hid hw9
    have hmf : ∀ (fn : Fn) (first cap : Array Value) (w : World), (Instr.makeFunc fn first cap).run Try.prog w = .ok (.func fn first cap) w := fun fn first cap w => rfl
    rw [hw9] at e1 e2
    clear hw9 B9 hx9 hs9 hM8 hx8 hb8
    go_wp2_with fail
    rw [← H9.out]
    refine HC.out.mono ?_
    rintro e w10 ⟨ns', fs', err', z, rfl, hM10, hO10, hG10, hr10, hu10, hg10, he10⟩
    have hV10 := HV.out.only hO10
    have e2 : w10.cell? ⟨w8.heap.size, 0, none⟩ = some (.pointer (some ⟨b, 0, none⟩)) := hV10.m.cell 0
    have HAns := Lib.hid (answer_is b ns' fs' err' z w10 hM10)
    have X10 := Lib.hid (hO10.new (X4.out.step HX9.out) (by have := hlt8.out; omega))
    have B10 := Lib.hid (hO10.bx (HB4.out.to HX9.out) (by have := hlt8.out; omega))
    have HMay' := Lib.hid hM10.may
    have HG := Lib.hid hG10
    have HUz := Lib.hid hu10
    have Hg := Lib.hid hg10
    have He := Lib.hid he10
    clear hM10 hO10 hG10 hr10 hu10 hg10 he10 hV10
    go_wp2_with fail
    refine HAns.out.mono ?_
    rintro e w11 ⟨h11 | h11, hx11⟩
    · obtain ⟨rfl, rfl⟩ := h11
      have b11 := B10.out.to hx11
      have HX11 := Lib.hid hx11
      have hc : fs.length < t.size + 1 := (He.out rfl).resolve_left (by omega)
      clear hx11
      go_wp2_with (first
        | (refine wpList_store_ar (by rfl) (.tmp 8) (.tmp 47) (by rfl) (w.heap.size + 1 + 1 + 1) (by rfl) (.slice none 0 0) (.slice none 0 0) (by rfl) rfl rfl _ b11 (by simp) ?_
           intro w12 B12 O12))
      refine bodyPost_ret (results_ar3 rfl _ _ (w.heap.size + 1 + 1 + 1) #[.slice none 0 0, .slice none 0 0] (by rfl) B12 rfl) rfl ⟨.inl ⟨rfl, hc⟩, ?_⟩
      exact O12.new (X10.out.step HX11.out) hge.out
    · obtain ⟨rfl, A', n', c', B', m', d', rfl, hA11⟩ := h11
      have b11 := B10.out.to hx11
      have HX11 := Lib.hid hx11
      have HA11 := Lib.hid hA11
      have HIs := Lib.hid (Hg.out rfl).2
      clear hx11 hA11
      go_wp2_with (first
        | (refine wpList_store_ar (by rfl) (.tmp 8) (.tmp 47) (by rfl) (w.heap.size + 1 + 1 + 1) (by rfl) (.slice A' n' c') (.slice B' m' d') (by rfl) rfl rfl _ b11 (by simp) ?_
           intro w12 B12 O12))
      refine bodyPost_ret (results_ar3 rfl _ _ (w.heap.size + 1 + 1 + 1) #[.slice A' n' c', .slice B' m' d'] (by rfl) B12 rfl) rfl ⟨.inr ⟨A', n', c', B', m', d', ns', fs', z, rfl, ?_, HMay'.out, HG.out, HUz.out, HIs.out⟩, O12.new (X10.out.step HX11.out) hge.out⟩
      exact HA11.out.past b11 (noInt (by simp) (by simp)) O12
  · have h200' : ((t.size : Int) == 200) = false := by simp; omega
    clear h200
    go_wp2_with fail
    refine (makerOf_is A B n m c d ns fs _ (HA.out.to HX6.out) HMay.out).mono ?_
    rintro e w8 ⟨b, rfl, hb8, hM8, hx8⟩
    obtain ⟨w9, hw9⟩ : ∃ w9, w9 = w8.alloc (.cells #[.pointer (some ⟨b, 0, none⟩)] 77) := ⟨_, rfl⟩
    obtain ⟨B9, hx9, hs9⟩ := box_made hw9
    have HX9 := Lib.hid (HX6.out.step (hx8.step hx9))
    have hlt8 := Lib.hid (show w.heap.size + 4 ≤ b ∧ b < w8.heap.size from ⟨by have := HX6.out.size; have := HS4.out; omega, hM8.lt⟩)
    have HV := Lib.hid (show PutV w9 b (w.heap.size + 1) w8.heap.size (w.heap.size + 1 + 1) key v from
      ⟨HB2.out.to HX9.out, B9, HB3.out.to HX9.out, by have := hlt8.out; omega, by have := hlt8.out; omega, by have := hlt8.out; omega⟩)
    have HC := Lib.hid (copiedP_is b (w.heap.size + 1) w8.heap.size (w.heap.size + 1 + 1) key v t ns fs 0 w9 (hM8.to hx9) HV.out HMp.out.rep HMp.out.srt HMp.out.hp HMp.out.le hU)
    rw [HREF.out] at HC
    have e1 : w9.cell? ⟨w.heap.size + 1, 0, none⟩ = some (.int .i64 key) := (HB2.out.to HX9.out).cell 0
    have e2 : w9.cell? ⟨w8.heap.size, 0, none⟩ = some (.pointer (some ⟨b, 0, none⟩)) := B9.cell 0
    have H9 := Lib.hid hw9
    have hmf : ∀ (fn : Fn) (first cap : Array Value) (w : World), (Instr.makeFunc fn first cap).run Try.prog w = .ok (.func fn first cap) w := fun fn first cap w => rfl
    rw [hw9] at e1 e2
    clear hw9 B9 hx9 hs9 hM8 hx8 hb8
    go_wp2_with fail
    rw [← H9.out]
    refine HC.out.mono ?_
    rintro e w10 ⟨ns', fs', err', z, rfl, hM10, hO10, hG10, hr10, hu10, hg10, he10⟩
    have hV10 := HV.out.only hO10
    have e2 : w10.cell? ⟨w8.heap.size, 0, none⟩ = some (.pointer (some ⟨b, 0, none⟩)) := hV10.m.cell 0
    have HAns := Lib.hid (answer_is b ns' fs' err' z w10 hM10)
    have X10 := Lib.hid (hO10.new (X4.out.step HX9.out) (by have := hlt8.out; omega))
    have B10 := Lib.hid (hO10.bx (HB4.out.to HX9.out) (by have := hlt8.out; omega))
    have HMay' := Lib.hid hM10.may
    have HG := Lib.hid hG10
    have HUz := Lib.hid hu10
    have Hg := Lib.hid hg10
    have He := Lib.hid he10
    clear hM10 hO10 hG10 hr10 hu10 hg10 he10 hV10
    go_wp2_with fail
    refine HAns.out.mono ?_
    rintro e w11 ⟨h11 | h11, hx11⟩
    · obtain ⟨rfl, rfl⟩ := h11
      have b11 := B10.out.to hx11
      have HX11 := Lib.hid hx11
      have hc : fs.length < t.size + 1 := (He.out rfl).resolve_left (by omega)
      clear hx11
      go_wp2_with (first
        | (refine wpList_store_ar (by rfl) (.tmp 8) (.tmp 47) (by rfl) (w.heap.size + 1 + 1 + 1) (by rfl) (.slice none 0 0) (.slice none 0 0) (by rfl) rfl rfl _ b11 (by simp) ?_
           intro w12 B12 O12))
      refine bodyPost_ret (results_ar3 rfl _ _ (w.heap.size + 1 + 1 + 1) #[.slice none 0 0, .slice none 0 0] (by rfl) B12 rfl) rfl ⟨.inl ⟨rfl, hc⟩, ?_⟩
      exact O12.new (X10.out.step HX11.out) hge.out
    · obtain ⟨rfl, A', n', c', B', m', d', rfl, hA11⟩ := h11
      have b11 := B10.out.to hx11
      have HX11 := Lib.hid hx11
      have HA11 := Lib.hid hA11
      have HIs := Lib.hid (Hg.out rfl).2
      clear hx11 hA11
      go_wp2_with (first
        | (refine wpList_store_ar (by rfl) (.tmp 8) (.tmp 47) (by rfl) (w.heap.size + 1 + 1 + 1) (by rfl) (.slice A' n' c') (.slice B' m' d') (by rfl) rfl rfl _ b11 (by simp) ?_
           intro w12 B12 O12))
      refine bodyPost_ret (results_ar3 rfl _ _ (w.heap.size + 1 + 1 + 1) #[.slice A' n' c', .slice B' m' d'] (by rfl) B12 rfl) rfl ⟨.inr ⟨A', n', c', B', m', d', ns', fs', z, rfl, ?_, HMay'.out, HG.out, HUz.out, HIs.out⟩, O12.new (X10.out.step HX11.out) hge.out⟩
      exact HA11.out.past b11 (noInt (by simp) (by simp)) O12

end Go.Proofs.Ythgaogbpkedjcaa
