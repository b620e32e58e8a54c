/-
  Rows of processes in memory; which of them may be (Right).
-/
import Derived.Test.YteiabmbfjfaboaaRight2
set_option linter.unusedVariables false
set_option linter.unusedSimpArgs false
namespace Go.Proofs.Yteiabmbfjfaboaa
open Go.RowKit

/-- A process in memory: the program's address and capacity, and what it is. -/
structure Pv where
  A : Option Addr
  c : Nat
  p : Pc
def Pv.cells (v : Pv) : List Value := [.slice v.A v.p.prog.length v.c, .int .i64 v.p.at_, .int .u64 (v.p.rs 0), .int .u64 (v.p.rs 1), .int .u64 (v.p.rs 2), .int .u64 (v.p.rs 3), .bool v.p.done, .int .i64 v.p.took]
theorem Pv.cells_length (v : Pv) : v.cells.length = 8 := rfl
/-- In w the slice value with address A shows these processes. -/
def Row (w : World) (A : Option Addr) (vs : List Pv) : Prop := Rd w 8 A vs.length (flat Pv.cells vs) ∧ ∀ v ∈ vs, Prg w v.A v.p.prog
theorem Row.to {w w' : World} {A : Option Addr} {vs : List Pv} (h : Row w A vs) (e : Ext w w') : Row w' A vs := ⟨h.1.to e, fun v hv => (h.2 v hv).to e⟩
theorem Rd.eight {w : World} {A : Option Addr} {n : Nat} {vs : List Pv} (h : Rd w 8 A n (flat Pv.cells vs)) {i : Nat} {v : Pv} (hv : vs[i]? = some v) :
    ∃ ad, A = some ad ∧ w.cell? (ad.add (i * 8)) = some (.slice v.A v.p.prog.length v.c) ∧ w.cell? { block := (ad.add (i * 8)).block, off := (ad.add (i * 8)).off + 1 } = some (.int .i64 v.p.at_) ∧
      w.cell? { block := (ad.add (i * 8)).block, off := (ad.add (i * 8)).off + 2 } = some (.int .u64 (v.p.rs 0)) ∧ w.cell? { block := (ad.add (i * 8)).block, off := (ad.add (i * 8)).off + 3 } = some (.int .u64 (v.p.rs 1)) ∧
      w.cell? { block := (ad.add (i * 8)).block, off := (ad.add (i * 8)).off + 4 } = some (.int .u64 (v.p.rs 2)) ∧ w.cell? { block := (ad.add (i * 8)).block, off := (ad.add (i * 8)).off + 5 } = some (.int .u64 (v.p.rs 3)) ∧
      w.cell? { block := (ad.add (i * 8)).block, off := (ad.add (i * 8)).off + 6 } = some (.bool v.p.done) ∧ w.cell? { block := (ad.add (i * 8)).block, off := (ad.add (i * 8)).off + 7 } = some (.int .i64 v.p.took) := by
  have g := fun j (hj : j < 8) => flat_get Pv.cells_length vs i j v hv hj
  obtain ⟨ad, ha, h0⟩ := h.2 _ _ ((g 0 (by omega)).trans rfl)
  have hc : ∀ j u, (flat Pv.cells vs)[j]? = some u → w.cell? (ad.add j) = some u := fun j u hj => by
    obtain ⟨ad', ha', h'⟩ := h.2 j u hj
    rw [ha] at ha'
    injection ha' with ha'
    rw [ha']
    exact h'
  refine ⟨ad, ha, by simpa using h0, ?_, ?_, ?_, ?_, ?_, ?_, ?_⟩
  · have := hc _ _ ((g 1 (by omega)).trans rfl); rw [← addr_add] at this; exact this
  · have := hc _ _ ((g 2 (by omega)).trans rfl); rw [← addr_add] at this; exact this
  · have := hc _ _ ((g 3 (by omega)).trans rfl); rw [← addr_add] at this; exact this
  · have := hc _ _ ((g 4 (by omega)).trans rfl); rw [← addr_add] at this; exact this
  · have := hc _ _ ((g 5 (by omega)).trans rfl); rw [← addr_add] at this; exact this
  · have := hc _ _ ((g 6 (by omega)).trans rfl); rw [← addr_add] at this; exact this
  · have := hc _ _ ((g 7 (by omega)).trans rfl); rw [← addr_add] at this; exact this

set_option maxHeartbeats 800000 in
theorem right_is (A : Option Addr) (n c : Nat) (vs : List Pv) (w : World) (h : Row w A vs) (hn : vs.length = n) (b : Bool) (hb : b = true ↔ (n ≤ 8 ∧ ∀ v ∈ vs, v.p.May)) :
    Calls Try.prog 13 #[.slice A n c] w fun e w' => e = .returned (.bool b) ∧ Ext w w' := by
  have HB := Lib.hid hb
  clear hb
  by_cases h8 : n ≤ 8
  · go_enter Try.func13, Try.ntmps13
    go_wp2_with fail
    go_loopw [10] (fun j wr => Ext w wr ∧ ∃ k : Nat, k ≤ n ∧ j = .int .i64 k ∧ Hid (∀ i v, i < k → vs[i]? = some v → v.p.May)) (fun j _ => n - (intOf j).toNat)
    case atStart => exact ⟨Ext.refl w, 0, Nat.zero_le _, rfl, fun i x hi => by omega⟩
    case round =>
      obtain ⟨hx, k, hk, rfl, hall⟩ := hrel
      by_cases hlt : k < n
      · obtain ⟨v, hvk⟩ : ∃ v, vs[k]? = some v := ⟨_, List.getElem?_eq_getElem (by omega)⟩
        obtain ⟨ad, rfl, g0, g1, g2, g3, g4, g5, g6, g7⟩ := (h.1.to hx).eight hvk
        have HX := Lib.hid hvk
        have hp := (h.2 v (List.mem_of_getElem? hvk)).to hx
        clear hvk
        obtain ⟨ok, hok⟩ : ∃ ok : Bool, ok = true ↔ v.p.May := by
          by_cases hq : v.p.May
          · exact ⟨true, by simp [hq]⟩
          · exact ⟨false, by simp [hq]⟩
        have HI := Lib.hid (fun (W : World) (hW : Ext wr W) => proc_is v.A v.c v.p W (hp.to hW) ok hok)
        have HO := Lib.hid hok
        clear hok
        go_wp2_with fail
        refine (HI.out _ ((Ext.refl wr).new _)).mono ?_; rintro e w1 ⟨rfl, hx1⟩
        have E1 := (hx.new _).step hx1
        cases ok
        · obtain rfl : b = false := by
            cases b
            · rfl
            · exact absurd (HO.out.2 ((HB.out.1 rfl).2 v (List.mem_of_getElem? HX.out))) (by simp)
          go_wp2_with fail
          go_ret
          exact ⟨rfl, E1⟩
        · go_wp2_with fail
          go_roundw
          case rel => exact ⟨E1, k + 1, by omega, by go_num, fun i y hi hy => by
            by_cases e : i = k
            · subst e
              rw [HX.out] at hy
              injection hy with hy
              subst hy
              exact HO.out.1 (by trivial)
            · exact hall i y (by omega) hy⟩
          case measure => simp [intOf]; omega
      · obtain rfl : b = true := HB.out.2 ⟨h8, fun v hv => by
          obtain ⟨i, hi⟩ := List.getElem?_of_mem hv
          have := (List.getElem?_eq_some_iff.1 hi).1
          exact hall i v (by omega) hi⟩
        go_wp2_with fail
        go_ret
        exact ⟨rfl, hx⟩
  · obtain rfl : b = false := by
      cases b
      · rfl
      · exact absurd (HB.out.1 rfl).1 h8
    go_enter Try.func13, Try.ntmps13
    go_wp2_with fail
    go_ret
    exact ⟨rfl, Ext.refl w⟩

end Go.Proofs.Yteiabmbfjfaboaa
