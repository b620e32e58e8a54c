/-
  Contract: Reach.
-/
import Derived.Test.YtmfpgbiicncpcaaGather
import Derived.Test.YtmfpgbiicncpcaaMake
import Derived.Laws.EntriesVeiled
set_option linter.unusedVariables false
set_option linter.unusedSimpArgs false
namespace Go.Proofs.Ytmfpgbiicncpcaa
open Go.RowKit

/-- All that is met from references. -/
def reached (ns : List Nd) (refs : List Int) : List Int := visits ns (ns.length + 1) [] refs

theorem reach_arg (A B R : Option Addr) (n m c d nr cr : Nat) (ns : List Nd) (fs : List Int) (w : World) (h : Ar w A n B m ns fs) (hn : n ≤ 1000) (hm : m ≤ 1000) (hno : ¬ ArMay ns fs) :
    Calls Try.prog 13 #[.agg #[.slice A n c, .slice B m d], .slice R nr cr] w fun e w' => e = .returned (.tuple #[.slice none 0 0, .int .i64 1]) ∧ Ext w w' := by
  have HR := Lib.hid (arRight_is A B n m c d ns fs (w.alloc (.cells #[.slice A n c, .slice B m d] 25)) (h.to ((Ext.refl w).new _)) hn hm false (by simp [hno]))
  go_enter Try.func13, Try.ntmps13
  go_wp2_with fail
  refine HR.out.mono ?_; rintro e w2 ⟨rfl, hx2⟩
  go_wp2_with fail
  go_ret2
  exact ⟨rfl, ((Ext.refl w).new _).step hx2⟩

def ReachA (w : World) (l : List Int) (e : Ending) (w' : World) : Prop :=
  ∃ P q, e = .returned (.tuple #[.slice P l.length q, .int .i64 0]) ∧ Rd w' 1 P l.length (Ks .i64 l) ∧ l.length ≤ q ∧ q ≤ maxLen ∧ Ext w w'

set_option maxHeartbeats 3200000 in
theorem reach_yes (A B R : Option Addr) (n m c d nr cr : Nat) (ns : List Nd) (fs refs : List Int) (w : World) (h : Ar w A n B m ns fs) (hn : n ≤ 1000) (hm : m ≤ 1000) (hmay : ArMay ns fs) (hr : Rd w 1 R nr (Us refs)) (hnr : nr ≤ 1000) (hU : ∀ z ∈ refs, 0 ≤ z ∧ z ≤ 18446744073709551615) :
    Calls Try.prog 13 #[.agg #[.slice A n c, .slice B m d], .slice R nr cr] w (ReachA w (reached ns refs)) := by
  obtain ⟨i0, hi0, hz0, hz1, hz2⟩ := info_parts bool_info
  obtain ⟨w1, hw1⟩ : ∃ w1, w1 = w.alloc (.cells #[.slice A n c, .slice B m d] 25) := ⟨_, rfl⟩
  obtain ⟨B1, hx1, hs1⟩ := box_made hw1
  have HR := Lib.hid (arRight_is A B n m c d ns fs w1 (h.to hx1) hn hm true (by simp [hmay]))
  have HB1 := Lib.hid B1
  have H1 := Lib.hid hw1
  have X1 := Lib.hid hx1
  have hmf : ∀ (fn : Fn) (first cap : Array Value) (w : World), (Instr.makeFunc fn first cap).run Try.prog w = .ok (.func fn first cap) w := fun fn first cap w => rfl
  have k0 : w1.cell? ⟨w.heap.size, 0, none⟩ = some (.slice A n c) := B1.cell 0
  have k1 : w1.cell? ⟨w.heap.size, 1, none⟩ = some (.slice B m d) := B1.cell 1
  have HL := Lib.hid h.len
  have HN := Lib.hid h.nodes
  have HOK := Lib.hid h.ok
  have HRR := Lib.hid hr
  clear B1 hw1 hx1 hs1 hmay h hr
  go_enter Try.func13, Try.ntmps13
  go_wp2_with fail
  rw [← H1.out]
  refine HR.out.mono ?_; rintro e w2 ⟨rfl, hx2⟩
  have k0 : w2.cell? ⟨w.heap.size, 0, none⟩ = some (.slice A n c) := (HB1.out.to hx2).cell 0
  have k1 : w2.cell? ⟨w.heap.size, 1, none⟩ = some (.slice B m d) := (HB1.out.to hx2).cell 1
  obtain ⟨w3, hw3⟩ : ∃ w3, w3 = w2.alloc (.cells (madeCells #[.bool false] n) 4) := ⟨_, rfl⟩
  obtain ⟨B3, hx3⟩ := bools_made hw3
  have hs3 : w3.heap.size = w2.heap.size + 1 := by rw [hw3]; simp
  have H3 := Lib.hid hw3
  have HB3 := Lib.hid B3
  have HX3 := Lib.hid (X1.out.step (hx2.step hx3))
  have HX23 := Lib.hid (hx2.step hx3)
  clear hw3 B3 hx3 hx2
  go_wp2_with (at_make; refine wpList_make_row _ rfl _ _ 68 rfl 4 i0 (.bool false) Try.underlying68 hi0 hz0 hz1 rfl .i64 .i64 n rfl rfl (by rw [hz2]; omega) (by omega) ?_; rw [← H3.out])
  obtain ⟨w4, hw4⟩ : ∃ w4, w4 = w3.alloc (.cells #[.slice (some ⟨w2.heap.size, 0, none⟩) n n] 68) := ⟨_, rfl⟩
  obtain ⟨w5, hw5⟩ : ∃ w5, w5 = w4.alloc (.cells #[.slice none 0 0] 23) := ⟨_, rfl⟩
  obtain ⟨w6, hw6⟩ : ∃ w6, w6 = w5.alloc (.cells #[fv w.heap.size (w2.heap.size + 1) (w2.heap.size + 1 + 1) (w2.heap.size + 1 + 1 + 1)] 69) := ⟨_, rfl⟩
  obtain ⟨B4, hx4, hs4⟩ := box_made hw4
  obtain ⟨B5, hx5, hs5⟩ := box_made hw5
  obtain ⟨B6, hx6, hs6⟩ := box_made hw6
  rw [hs5, hs4, hs3] at B6
  rw [hs4, hs3] at B5
  rw [hs3] at B4
  have hb2 : w.heap.size < w2.heap.size := by have h1 := HB1.out.lt; have h2 := k0; exact World.block_lt_of_cell? w2 _ h2
  have E6 : Ext w w6 := HX3.out.step (hx4.step (hx5.step hx6))
  have sp : Spots w.heap.size w.heap.size (w2.heap.size + 1) (w2.heap.size + 1 + 1) (w2.heap.size + 1 + 1 + 1) w2.heap.size := by
    refine ⟨?_, ?_, ?_, ?_, ?_, ?_, ?_, ?_, ?_, ?_, ?_, ?_⟩ <;> omega
  have G : Ga w #[.slice A n c, .slice B m d] n w.heap.size (w2.heap.size + 1) (w2.heap.size + 1 + 1) (w2.heap.size + 1 + 1 + 1) w2.heap.size w6 none 0 [] := by
    refine ⟨HB1.out.to (HX23.out.step (hx4.step (hx5.step hx6))), B4.to (hx5.step hx6), B5.to hx6, B6, HB3.out.to (hx4.step (hx5.step hx6)), World.ownsRow_nil _ _ _ _, (fun k hk => by cases hk), E6⟩
  have HGa := Lib.hid (gather_is w A B n m c d ns HN.out HOK.out hn w.heap.size (w2.heap.size + 1) (w2.heap.size + 1 + 1) (w2.heap.size + 1 + 1 + 1) w2.heap.size sp (n + 1) w6 none 0 [] R nr cr refs G (Met.nil ns) (by simp) hnr hU (fun W' hW' => HRR.out.to (hW'.old E6 (by omega) (by omega) (fun k hk => by cases hk))))
  rw [show visits ns (n + 1) [] refs = reached ns refs by unfold reached; rw [HL.out]] at HGa
  have hww : w6 = (((w3.alloc (.cells #[.slice (some ⟨w2.heap.size, 0, none⟩) n n] 68)).alloc (.cells #[.slice none 0 0] 23)).alloc (.cells #[fv w.heap.size (w2.heap.size + 1) (w2.heap.size + 1 + 1) (w2.heap.size + 1 + 1 + 1)] 69)) := by rw [hw6, hw5, hw4]
  have HW := Lib.hid hww
  clear hww G sp E6 B4 B5 B6 hx4 hx5 hx6 hs4 hs5 hs6 hw4 hw5 hw6 k0 k1
  have HGb := HGa.out
  rw [HW.out] at HGb
  refine HGb.mono ?_
  rintro e w9 ⟨rfl, P9, q9, hG9, _, _⟩
  have z0 : w9.cell? ⟨w2.heap.size + 1 + 1, 0, none⟩ = some (.slice P9 (reached ns refs).length q9) := hG9.p.cell 0
  have HG9 := Lib.hid hG9
  obtain ⟨c1, c2, _⟩ := own_cap hG9.own
  clear hG9 HGb
  go_wp2_with fail
  go_ret2
  exact ⟨P9, q9, rfl, Rd.own HG9.out.own, c1, c2, HG9.out.ext⟩

end Go.Proofs.Ytmfpgbiicncpcaa
