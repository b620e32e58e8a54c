/-
  The walk of ArenaCalls.
-/
import Derived.Test.YtmfpgbiicncpcaaCallsA
import Derived.Test.YtmfpgbiicncpcaaLawCallsB
set_option linter.unusedVariables false
set_option linter.unusedSimpArgs false
namespace Go.Proofs.Ytmfpgbiicncpcaa
open Go.RowKit

set_option maxHeartbeats 6400000 in
set_option maxRecDepth 100000 in
theorem calls_walk (A B C : Option Addr) (n m q c d r : Nat) (ns : List Nd) (fs roots : List Int) (size rr : Int) (x : Nd) (w : World) (h : Ar w A n B m ns fs) (hnc : n ≤ c) (hmd : m ≤ d) (hc : c ≤ maxLen) (hd : d ≤ maxLen) (hx : x.Ok) (hp : Rd w 1 C q (Us roots)) (hqr : q ≤ r) (hr : r ≤ maxLen)
    (hU : ∀ z ∈ roots, 0 ≤ z ∧ z ≤ 18446744073709551615) (hr0 : 0 ≤ rr) (hr1 : rr ≤ 18446744073709551615) :
    Calls Try.prog 3 #[.agg #[.slice A n c, .slice B m d], .int .i64 size, .int .u64 rr, .agg x.arr, .slice C q r] w fun e w' => e = .returned (.bool true) ∧ Ext w w' := by
  obtain ⟨w1, hw1⟩ : ∃ w1, w1 = w.alloc (.cells #[.slice A n c, .slice B m d] 25) := ⟨_, rfl⟩
  obtain ⟨w2, hw2⟩ : ∃ w2, w2 = w1.alloc (.cells x.arr 30) := ⟨_, rfl⟩
  obtain ⟨B1, hx1, hs1⟩ := box_made hw1
  obtain ⟨B2, hx2, hs2⟩ := box_made hw2
  rw [hs1] at B2
  have hAn : A = none → n = 0 := fun e => by
    rcases Nat.eq_zero_or_pos n with h' | h'
    · exact h'
    · obtain ⟨ad, ha⟩ := h.nodes.some_ h' (by omega)
      rw [e] at ha; cases ha
  have hBn : B = none → m = 0 := fun e => by
    rcases Nat.eq_zero_or_pos m with h' | h'
    · exact h'
    · obtain ⟨ad, ha⟩ := h.free.some_ h' (by omega)
      rw [e] at ha; cases ha
  have HF := Lib.hid (fun W => few_is A B n m c d W hAn hBn hnc hmd hc hd)
  have HB1 := Lib.hid (B1.to hx2)
  have HB2 := Lib.hid B2
  have X2 := Lib.hid (hx1.step hx2)
  have H1 := Lib.hid hw1
  have H2 := Lib.hid hw2
  have HA := Lib.hid (h.few)
  have hn40 : min n 40 ≤ 40 := by omega
  have hm42 : min m 42 ≤ 42 := by omega
  have hmd' : min m 42 ≤ d := by omega
  generalize ns.take 40 = ns' at HA
  generalize fs.take 42 = fs' at HA
  generalize min n 40 = n' at HF HA hn40
  generalize min m 42 = m' at HF HA hm42 hmd'
  have HP : Hid (Rd w 1 C (min q 10) (Us (roots.take 10))) := by
    have h2 := hp.take (k := min q 10) (by omega)
    have e2 : (Us roots).take (min q 10 * 1) = Us (roots.take 10) := by
      have hl : roots.length = q := hp.u64len
      unfold Us
      rw [List.map_take, Nat.mul_one, ← hl, Nat.min_comm, List.take_eq_take_iff]
      simp
    rw [e2] at h2
    exact Lib.hid h2
  have hqm : (q ≤ 10 ∧ min q 10 = q) ∨ (10 < q ∧ min q 10 = 10) := by omega
  have hq10 : min q 10 ≤ 10 := by omega
  have HU := Lib.hid (fun z (hz : z ∈ roots.take 10) => hU z (List.mem_of_mem_take hz))
  generalize roots.take 10 = rs at HP HU
  generalize min q 10 = q' at HP hqm hq10
  have HPL := Lib.hid (show rs.length = q' from HP.out.u64len)
  have HLN := Lib.hid HA.out.len
  have HLF := Lib.hid HA.out.lenF
  have HD := Lib.hid (And.intro hmd' hd)
  have HRL := Lib.hid (And.intro hr hqr)
  have HQM := Lib.hid hqm
  have HX := Lib.hid hx
  clear hw1 hw2 B1 B2 hx1 hx2 hs1 hs2 hAn hBn h hp hqm hnc hmd hc hd hU hx hr hqr hmd'
  go_enter Try.func3, Try.ntmps3
  go_upto_region 1 with fail
  rw [← H1.out, ← H2.out]
  refine calls_few w2 w.heap.size (w.heap.size + 1) n m q c d r q' n' m' A B C x _ _ _ _ _ _ _ _ _ _ _ _ _ _ _ _ _ _ _ _ _ _ _ _ _ _ _ _ _ _ _ _ _ _ _ _ _ _ _ _ _ _ _ _ _ _ _ _ _ _ _ _ _ _ _ _ _ _ _ _ _ _ _ _ _ _ _ _ _ _ _ _ _ _ _ _ _ _ _ _ _ _ _ _ _ _ _ _ _ _ _ _ _ _ _ _ _ _ _ _ _ _ _ _ _ _ _ _ _ _ _ _ _ _ _ _ _ _ _ _ _ _ _ _ _ _ _ _ _ _ _ _ _ _ _ _ _ _ _ _ _ _ _ _ _ _ _ _ _ _ _ _ _ _ _ _ _ _ _ _ _ _ _ _ _ _ _ _ _ _ _ _ _ _ _ _ _ _ _ _ _ _ _ _ _ _ _ _ _ _ _ _ _ _ _ _ _ _ _ _ _ _ _ _ _ _ _ _ _ _ _ _ _ _ _ _ _ _ _ _ _ _ _ _ _ _ _ _ _ _ _ _ _ _ _ _ _ _ _ _ _ _ _ _ _ _ _ _ _ _ _ _ _ _ _ _ _ _ _ _ _ _ _ _ _ _ _ _ _ _ _ _ _ _ _ _ _ _ _ HRL.out.1 HRL.out.2 HQM.out HF HB1 HB2 (by omega) (Lib.hid ?_)
  intro v4 v28 v29 v30 v31 v32 v33 v34 w3 h4 hE hB5 hB8
  subst h4
  have E3 := Lib.hid (hE w X2.out (Nat.le_refl _))
  have Z3 := Lib.hid (show w.heap.size + 2 ≤ w3.heap.size by
    have h1 := hB8.lt
    omega)
  have HB5 := Lib.hid hB5
  have HB8 := Lib.hid hB8
  clear hE hB5 hB8 HB1 HB2 HF H1 H2 X2 HQM HRL
  rename ∀ (a : Act) (w : World), Code.wp _ _ _ a w → _ => hK
  refine hK _ _ ?_
  exact calls_partB w w3 w.heap.size (w.heap.size + 1) n' m' c d q' r A B C ns' fs' rs size rr x _ _ _ _ _ _ _ _ _ _ _ _ _ _ _ _ _ _ _ _ _ _ _ _ _ _ _ _ _ _ _ _ _ _ _ _ _ _ _ _ _ _ _ _ _ _ _ _ _ _ _ _ _ _ _ _ _ _ _ _ _ _ _ _ _ _ _ _ _ _ _ _ _ _ _ _ _ _ _ _ _ _ _ _ _ _ _ _ _ _ _ _ _ _ _ _ _ _ _ _ _ _ _ _ _ _ _ _ _ _ _ _ _ _ _ _ _ _ _ _ _ _ _ _ _ _ _ _ _ _ _ _ _ _ _ _ _ _ _ _ _ _ _ _ _ _ _ _ _ _ _ _ _ _ _ _ _ _ _ _ _ _ _ _ _ _ _ _ _ _ _ _ _ _ _ _ _ _ _ _ _ _ _ _ _ _ _ _ _ _ _ _ _ _ _ _ _ _ _ _ _ _ _ _ _ _ _ _ _ _ _ _ _ _ _ _ _ _ _ _ _ _ _ _ _ _ _ _ _ _ _ _ _ _ _ _ _ _ _ _ _ _ _ _ _ _ _ _ _ _ _ _ _ _ _ _ _ _ _ _ _ _ _ _ _ _ _ _ _ _ _ _ _ _ _ hn40 hm42 hq10 hr0 hr1 (Nat.le_refl _) (by omega) (by omega) HD HLN HLF HPL HU HX HA HP E3 Z3 HB5 HB8

theorem ArenaCalls_walk (w : World) (A B : Option Addr) (n m c d : Nat) (ns : List Nd) (fs : List Int) (h : Ar w A n B m ns fs) (hn : n ≤ c) (hm : m ≤ d) (hc : c ≤ maxLen) (hd : d ≤ maxLen) (_ : ∀ z ∈ fs, (Lit.int .i64 z).wf = true) (size : Int) (_ : (Lit.int .i64 size).wf = true) (rr : Int) (hrr : (Lit.int .u64 rr).wf = true)
    (x : Nd) (hx : x.Ok) (C : Option Addr) (q r : Nat) (roots : List Int) (hp : Rd w 1 C q (Us roots)) (hqr : q ≤ r) (hr : r ≤ maxLen) (hU : ∀ z ∈ roots, (Lit.int .u64 z).wf = true) :
    Calls Try.prog 3 #[.agg #[.slice A n c, .slice B m d], .int .i64 size, .int .u64 rr, .agg x.arr, .slice C q r] w fun e w' => e = .returned (.bool true) ∧ Below w.heap.size w w' :=
  calls_walk A B C n m q c d r ns fs roots size rr x w h hn hm hc hd hx hp hqr hr (fun z hz => bounds_u64 (hU z hz)) (bounds_u64 hrr).1 (bounds_u64 hrr).2

end Go.Proofs.Ytmfpgbiicncpcaa
