/-
  Contract: Get of package treap.
-/
import Derived.Test.YtjiehlhnocgneaaTrRight
set_option linter.unusedVariables false
set_option linter.unusedSimpArgs false
namespace Go.Proofs.Ytjiehlhnocgneaa
open Go.RowKit

set_option maxHeartbeats 1000000 in
theorem trGet_arg (A B : Option Addr) (n m c d : Nat) (ns : List Nd) (fs : List Int) (r key : Int) (w : World) (h : Ar w A n B m ns fs) (hn : n ≤ 1000) (hm : m ≤ 1000) (hU : U r) (hno : ¬ (ArMay ns fs ∧ MapAt ns r)) :
    Calls Try.prog 36 #[.agg #[.slice A n c, .slice B m d], .int .u64 r, .int .i64 key] w fun e w' => e = .returned (.tuple #[.int .i64 0, .int .i64 1]) ∧ Ext w w' := by
  obtain ⟨w1, hw1⟩ : ∃ w1, w1 = w.alloc (.cells #[.slice A n c, .slice B m d] 25) := ⟨_, rfl⟩
  obtain ⟨B1, hx1, hs1⟩ := box_made hw1
  have HR := Lib.hid (trRight_is A B n m c d ns fs r w1 (h.to hx1) hn hm hU false (by simp [hno]))
  have k0 : w1.cell? ⟨w.heap.size, 0, none⟩ = some (.slice A n c) := B1.cell 0
  have k1 : w1.cell? ⟨w.heap.size, 1, none⟩ = some (.slice B m d) := B1.cell 1
  have H1 := Lib.hid hw1
  have X1 := Lib.hid hx1
  clear hw1 B1 hx1 hs1 hno h
  go_enter Try.func36, Try.ntmps36
  go_wp2_with fail
  rw [← H1.out]
  go_wp2_with fail
  refine HR.out.mono ?_; rintro e w2 ⟨rfl, hx2⟩
  go_wp2_with fail
  go_ret2
  exact ⟨rfl, X1.out.step hx2⟩

/-- A key's value in a tree, and the error. -/
def getS : T → Int × Int
  | .nil => (0, 3)
  | .node _ _ _ v _ => (v, 0)
def getT (t : T) (key : Int) : Int × Int := getS (t.sub key)

set_option maxHeartbeats 1000000 in
theorem trGet_is (A B : Option Addr) (n m c d : Nat) (ns : List Nd) (fs : List Int) (t : T) (key : Int) (w : World) (h : Ar w A n B m ns fs) (hn : n ≤ 1000) (hm : m ≤ 1000) (hU : U t.ref) (hmay : ArMay ns fs) (hM : Mp ns t) :
    Calls Try.prog 36 #[.agg #[.slice A n c, .slice B m d], .int .u64 t.ref, .int .i64 key] w fun e w' => e = .returned (.tuple #[.int .i64 (getT t key).1, .int .i64 (getT t key).2]) ∧ Ext w w' := by
  obtain ⟨w1, hw1⟩ : ∃ w1, w1 = w.alloc (.cells #[.slice A n c, .slice B m d] 25) := ⟨_, rfl⟩
  obtain ⟨B1, hx1, hs1⟩ := box_made hw1
  have HR := Lib.hid (trRight_is A B n m c d ns fs t.ref w1 (h.to hx1) hn hm hU true (by simp only [true_iff]; exact ⟨hmay, t, hM, rfl⟩))
  have HA := Lib.hid (h.to hx1)
  have HF := Lib.hid (fun W (hW : Ext w1 W) => find_is A B n c m d ns key t W hM.rep hM.le hU (HA.out.to hW).nodes h.ok)
  have k0 : w1.cell? ⟨w.heap.size, 0, none⟩ = some (.slice A n c) := B1.cell 0
  have k1 : w1.cell? ⟨w.heap.size, 1, none⟩ = some (.slice B m d) := B1.cell 1
  have HB1 := Lib.hid B1
  have H1 := Lib.hid hw1
  have X1 := Lib.hid hx1
  have HM := Lib.hid hM
  have HSR := Lib.hid (sub_rep hM.rep key)
  have HOK := Lib.hid h.ok
  obtain ⟨s, hs⟩ : ∃ s, s = t.sub key := ⟨_, rfl⟩
  have HG := Lib.hid (show getT t key = getS s by rw [hs]; rfl)
  have HSU := Lib.hid (show U s.ref by
    rw [hs]
    have : ∀ u : T, Rep ns u → U u.ref → U (u.sub key).ref := by
      intro u
      induction u with
      | nil => intro _ _; exact U.zero
      | node r l k v u ih1 ih2 =>
        intro hr hu
        have hk := hr.kids h.ok
        simp only [T.sub]
        split
        · exact hu
        · split
          · exact ih1 hr.2.1 hk.1
          · exact ih2 hr.2.2 hk.2
    exact this t hM.rep hU)
  rw [← hs] at HF HSR
  rw [HG.out]
  clear hw1 B1 hx1 hs1 hs hmay hM h HG
  generalize t.ref = r at *
  go_enter Try.func36, Try.ntmps36
  go_wp2_with fail
  rw [← H1.out]
  go_wp2_with fail
  refine HR.out.mono ?_; rintro e w2 ⟨rfl, hx2⟩
  have k0 : w2.cell? ⟨w.heap.size, 0, none⟩ = some (.slice A n c) := (HB1.out.to hx2).cell 0
  have k1 : w2.cell? ⟨w.heap.size, 1, none⟩ = some (.slice B m d) := (HB1.out.to hx2).cell 1
  have HX2 := Lib.hid hx2
  clear hx2
  go_wp2_with fail
  refine (HF.out _ HX2.out).mono ?_; rintro e w3 ⟨rfl, hx3⟩
  have HX3 := Lib.hid (HX2.out.step hx3)
  clear hx3
  cases s with
  | nil =>
    rw [show T.nil.ref = 0 from rfl]
    go_wp2_with fail
    go_ret2
    exact ⟨rfl, X1.out.step HX3.out⟩
  | node q l k v u =>
    have q0 : (q == 0) = false := by simp [HSR.out.ref_nz]
    obtain ⟨x, hx⟩ := HSR.out.nod
    have HUq := Lib.hid (show U q from HSU.out)
    have HN := Lib.hid (fun W (hW : Ext w1 W) => nodeOf_is A B n c m d ns q W HUq.out.1 HUq.out.2 (HA.out.to hW).nodes)
    rw [hx.at_] at HN
    have hv := nd_v x
    rw [hx.v] at hv
    have k0 : w3.cell? ⟨w.heap.size, 0, none⟩ = some (.slice A n c) := (HB1.out.to HX3.out).cell 0
    have k1 : w3.cell? ⟨w.heap.size, 1, none⟩ = some (.slice B m d) := (HB1.out.to HX3.out).cell 1
    clear hx
    rw [show (T.node q l k v u).ref = q from rfl]
    go_wp2_with fail
    refine (HN.out _ HX3.out).mono ?_; rintro e w4 ⟨rfl, hx4⟩
    go_wp2_with fail
    go_ret2
    exact ⟨rfl, X1.out.step (HX3.out.step hx4)⟩

end Go.Proofs.Ytjiehlhnocgneaa
