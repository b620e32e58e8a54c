/-
  Contracts of package machine: step.
-/
import Derived.Test.YteiabmbfjfaboaaStep2
set_option linter.unusedVariables false
set_option linter.unusedSimpArgs false
namespace Go.Proofs.Yteiabmbfjfaboaa
open Go.RowKit

theorem Rd.off {w : World} {size n g j : Nat} {A : Option Addr} {xs : List Value} {u : Value} (hf : ∀ q, A = some q → q.block ≠ g) (h : Rd w size A n xs) : Rd (w.setCell ⟨g, j, none⟩ u) size A n xs :=
  ⟨h.1, fun k u' hu => by
    obtain ⟨ad, ha, hc⟩ := h.2 k u' hu
    refine ⟨ad, ha, ?_⟩
    have hb := hf ad ha
    rw [World.cell?_setCell_other _ _ _ _ (fun e => by
      have : (ad.add k).block = g := congrArg Addr.block e.symm
      rw [addr_block] at this
      exact hb this)]
    exact hc⟩

set_option maxHeartbeats 2000000 in
theorem step_done (ad : Addr) (c : Nat) (A : Option Addr) (d : Nat) (p : Pc) (w : World) (hd : p.done = true) :
    Calls Try.prog 27 #[.slice (some ad) 64 c, .agg #[.slice A p.prog.length d, .int .i64 p.at_, .int .u64 (p.rs 0), .int .u64 (p.rs 1), .int .u64 (p.rs 2), .int .u64 (p.rs 3), .bool p.done, .int .i64 p.took]] w fun e w' => e = .returned (.tuple #[.slice (some ad) 64 c, .agg #[.slice A p.prog.length d, .int .i64 p.at_, .int .u64 (p.rs 0), .int .u64 (p.rs 1), .int .u64 (p.rs 2), .int .u64 (p.rs 3), .bool p.done, .int .i64 p.took]]) ∧ Ext w w' := by
  go_enter Try.func27, Try.ntmps27
  go_wp2_with fail
  go_region
  go_wp2_with fail
  refine bodyPost_ret (v := .tuple #[.slice (some ad) 64 c, .agg #[.slice A p.prog.length d, .int .i64 p.at_, .int .u64 (p.rs 0), .int .u64 (p.rs 1), .int .u64 (p.rs 2), .int .u64 (p.rs 3), .bool p.done, .int .i64 p.took]]) (by simp [results, Try.results27, go_sem, *]) rfl ⟨rfl, ?_⟩
  repeat (first | with_reducible refine Ext.drew ?_ | with_reducible refine Ext.new ?_ _)
  exact Ext.refl w
set_option maxHeartbeats 2000000 in
theorem step_full (ad : Addr) (c : Nat) (A : Option Addr) (d : Nat) (p : Pc) (w : World) (hd : p.done = false) (ht : p.took = 1099511627776) :
    Calls Try.prog 27 #[.slice (some ad) 64 c, .agg #[.slice A p.prog.length d, .int .i64 p.at_, .int .u64 (p.rs 0), .int .u64 (p.rs 1), .int .u64 (p.rs 2), .int .u64 (p.rs 3), .bool p.done, .int .i64 p.took]] w fun e w' => e = .returned (.tuple #[.slice (some ad) 64 c, .agg #[.slice A p.prog.length d, .int .i64 p.at_, .int .u64 (p.rs 0), .int .u64 (p.rs 1), .int .u64 (p.rs 2), .int .u64 (p.rs 3), .bool p.done, .int .i64 p.took]]) ∧ Ext w w' := by
  go_enter Try.func27, Try.ntmps27
  go_wp2_with fail
  go_region
  go_wp2_with fail
  refine bodyPost_ret (v := .tuple #[.slice (some ad) 64 c, .agg #[.slice A p.prog.length d, .int .i64 p.at_, .int .u64 (p.rs 0), .int .u64 (p.rs 1), .int .u64 (p.rs 2), .int .u64 (p.rs 3), .bool p.done, .int .i64 p.took]]) (by simp [results, Try.results27, go_sem, *]) rfl ⟨rfl, ?_⟩
  repeat (first | with_reducible refine Ext.drew ?_ | with_reducible refine Ext.new ?_ _)
  exact Ext.refl w

set_option maxRecDepth 100000 in
set_option maxHeartbeats 800000 in
theorem step_on (ad : Addr) (c : Nat) (ws : List Int) (A : Option Addr) (d : Nat) (p : Pc) (w : World) (h : Rd w 1 (some ad) 64 (Us ws)) (hp : Prg w A p.prog) (hm : p.May) (hd : p.done = false) (ht : (p.took == 1099511627776) = false)
    (nx : Int) (hnx : nx = nextOf p.ins p.rs p.at_ p.prog.length) (fin : Bool) (hfin : fin = true ↔ ¬ (0 ≤ nx ∧ nx < p.prog.length)) (rs' : Nat → Int) (hrs : rs' = upd p.rs p.ins.r.toNat (regOf p.ins p.rs ws)) :
    Calls Try.prog 27 #[.slice (some ad) 64 c, .agg #[.slice A p.prog.length d, .int .i64 p.at_, .int .u64 (p.rs 0), .int .u64 (p.rs 1), .int .u64 (p.rs 2), .int .u64 (p.rs 3), .bool p.done, .int .i64 p.took]] w fun e w' => ∃ A' c',
      e = .returned (.tuple #[.slice A' 64 c', .agg #[.slice A p.prog.length d, .int .i64 (bif fin then p.at_ else nx), .int .u64 (rs' 0), .int .u64 (rs' 1), .int .u64 (rs' 2), .int .u64 (rs' 3), .bool fin, .int .i64 (p.took + 1)]]) ∧
      Rd w' 1 A' 64 (Us (wordsOf p.ins p.rs ws)) ∧ Ext w w' ∧ ∀ q, A' = some q → q = ad ∨ w.heap.size ≤ q.block := by
  obtain ⟨i, hi, hl, hget, hok⟩ := ins_of hm
  obtain ⟨⟨hl0, hl64⟩, ⟨ha0, ha1⟩, ⟨ht0, ht1⟩, _⟩ := hm
  generalize p.ins = x at *
  obtain ⟨prog, at_, rs, done, took⟩ := p
  dsimp only at *
  subst hi hd
  obtain ⟨pd, rfl, g0, g1, g2, g3, g4⟩ := hp.at hget
  have hlt : ad.block < w.heap.size := by
    have := World.block_lt_of_cell? w _ (h.u64 (j := 0) (by omega))
    rwa [addr_block] at this
  have HB := Lib.hid (fun W => behind_is (some pd) d ⟨prog, i, rs, false, took⟩ x W prog.length hok ha0 (by dsimp only; omega))
  have HD := Lib.hid (fun W (hW : Ext w W) => do_is ad c ws x rs W (h.to hW) prog.length hok)
  dsimp only at HB
  rw [← hnx] at HB
  rw [← hrs] at HD
  have ht' : took < 1099511627776 := by
    have : took ≠ 1099511627776 := by simpa using ht
    omega
  obtain ⟨inb, hinb⟩ : ∃ inb : Bool, inb = !fin := ⟨_, rfl⟩
  have HW := Lib.hid (fun W => within_is nx prog.length inb (by rw [hinb]; cases fin <;> simp at hfin ⊢ <;> omega) W)
  clear hget hnx hrs hfin
  have b0 : (pd.add (i * 5)).block < w.heap.size := World.block_lt_of_cell? w _ g0
  have b1 : (pd.add (i * 5)).block < w.heap.size + 1 := by omega
  go_enter Try.func27, Try.ntmps27
  go_wp2_with fail
  refine (HB.out _).mono ?_; rintro e w1 ⟨rfl, hx1⟩
  have B3 := (((Bx.new w _ _).alloc _).alloc _).to hx1
  have B5 := ((Bx.new (w.alloc _) _ _).alloc _).to hx1
  have B6 := (Bx.new ((w.alloc _).alloc _) _ _).to hx1
  simp at B5 B6
  have E1 := (((Ext.refl w).new _).new _).step ((Ext.refl _).new _ |>.step hx1)
  clear hx1 b0 b1 g0 g1 g2 g3 g4
  have k0 := B3.cell; have k2 := B6.cell
  go_wp2_with fail
  clear k0 k2
  refine (HD.out _ E1).mono ?_; rintro e w2 ⟨A2, c2, rfl, hr2, hx2, hf2⟩
  replace B3 := B3.to hx2; replace B5 := B5.to hx2
  have hf3 : ∀ q, A2 = some q → q = ad ∨ w.heap.size ≤ q.block := fun q hq => by
    rcases hf2 q hq with h' | h'
    · exact .inl h'
    · have := E1.size
      exact .inr (by omega)
  have HF3 := Lib.hid hf3
  clear hf3
  replace hf2 : ∀ q, A2 = some q → q.block < w.heap.size ∨ w.heap.size + 3 ≤ q.block := fun q hq => by
    rcases hf2 q hq with rfl | h'
    · exact .inl hlt
    · have := B6.lt
      omega
  have E2 := E1.step hx2
  clear hx2 E1 B6
  have k0 := B3.cell; have k1 := B5.cell; have f0 := B3.free; have f1 := B5.free; have z0 := B3.lt; have z1 := B5.lt
  go_wp2_with fail
  refine (HW.out _).mono ?_; rintro e w' ⟨rfl, rfl⟩
  subst hinb
  cases fin
  · go_wp2_with fail
    go_region
    go_wp2_with fail
    refine bodyPost_ret (v := .tuple #[.slice A2 64 c2, .agg #[.slice (some pd) prog.length d, .int .i64 nx, .int .u64 (rs' 0), .int .u64 (rs' 1), .int .u64 (rs' 2), .int .u64 (rs' 3), .bool false, .int .i64 (took + 1)]]) (by simp [results, Try.results27, go_sem, *]) rfl ?_
    refine ⟨_, _, rfl, ?_, ?_, HF3.out⟩
    · repeat (first | with_reducible refine Rd.drew ?_ | with_reducible refine Rd.off (by intro q hq; have := hf2 q hq; omega) ?_)
      exact hr2
    · repeat (first | with_reducible refine Ext.drew ?_ | with_reducible refine Ext.set ?_ _ (by omega))
      exact E2
  · go_wp2_with fail
    go_region
    go_wp2_with fail
    refine bodyPost_ret (v := .tuple #[.slice A2 64 c2, .agg #[.slice (some pd) prog.length d, .int .i64 i, .int .u64 (rs' 0), .int .u64 (rs' 1), .int .u64 (rs' 2), .int .u64 (rs' 3), .bool true, .int .i64 (took + 1)]]) (by simp [results, Try.results27, go_sem, *]) rfl ?_
    refine ⟨_, _, rfl, ?_, ?_, HF3.out⟩
    · repeat (first | with_reducible refine Rd.drew ?_ | with_reducible refine Rd.off (by intro q hq; have := hf2 q hq; omega) ?_)
      exact hr2
    · repeat (first | with_reducible refine Ext.drew ?_ | with_reducible refine Ext.set ?_ _ (by omega))
      exact E2

theorem stp_on {ws : List Int} {p : Pc} (h : ¬ (p.done = true ∨ p.took = 1099511627776)) :
    stp ws p = (wordsOf p.ins p.rs ws, p.on (upd p.rs p.ins.r.toNat (regOf p.ins p.rs ws)) (nextOf p.ins p.rs p.at_ p.prog.length)) := by
  unfold stp
  rw [if_neg h]

theorem step_is (ad : Addr) (c : Nat) (ws : List Int) (A : Option Addr) (d : Nat) (p : Pc) (w : World) (h : Rd w 1 (some ad) 64 (Us ws)) (hp : Prg w A p.prog) (hm : p.May) :
    Calls Try.prog 27 #[.slice (some ad) 64 c, .agg #[.slice A p.prog.length d, .int .i64 p.at_, .int .u64 (p.rs 0), .int .u64 (p.rs 1), .int .u64 (p.rs 2), .int .u64 (p.rs 3), .bool p.done, .int .i64 p.took]] w fun e w' => ∃ A' c', e = .returned (.tuple #[.slice A' 64 c', .agg #[.slice A ((stp ws p).2).prog.length d, .int .i64 ((stp ws p).2).at_, .int .u64 (((stp ws p).2).rs 0), .int .u64 (((stp ws p).2).rs 1), .int .u64 (((stp ws p).2).rs 2), .int .u64 (((stp ws p).2).rs 3), .bool ((stp ws p).2).done, .int .i64 ((stp ws p).2).took]]) ∧
      Rd w' 1 A' 64 (Us (stp ws p).1) ∧ Ext w w' ∧ ∀ q, A' = some q → q = ad ∨ w.heap.size ≤ q.block := by
  by_cases hd : p.done = true
  · have e : stp ws p = (ws, p) := by unfold stp; rw [if_pos (.inl hd)]
    rw [e]
    exact (step_done ad c A d p w hd).mono fun _ _ ⟨he, hx⟩ => ⟨_, _, he, h.to hx, hx, fun q hq => .inl (by injection hq with hq; exact hq.symm)⟩
  · have hd' : p.done = false := by simpa using hd
    by_cases ht : p.took = 1099511627776
    · have e : stp ws p = (ws, p) := by unfold stp; rw [if_pos (.inr ht)]
      rw [e]
      exact (step_full ad c A d p w hd' ht).mono fun _ _ ⟨he, hx⟩ => ⟨_, _, he, h.to hx, hx, fun q hq => .inl (by injection hq with hq; exact hq.symm)⟩
    · rw [stp_on (by intro h'; rcases h' with h' | h'; exact hd h'; exact ht h')]
      obtain ⟨i, hi, hl, _, hok⟩ := ins_of hm
      have hn := next_range (rs := p.rs) hok hl
      rw [← hi] at hn
      obtain ⟨nx, hnx⟩ : ∃ nx, nx = nextOf p.ins p.rs p.at_ p.prog.length := ⟨_, rfl⟩
      rw [← hnx] at hn ⊢
      refine (step_on ad c ws A d p w h hp hm hd' (by simpa using ht) nx hnx (decide (nx = (p.prog.length : Int))) (by simp; omega) _ rfl).mono ?_
      rintro e w' ⟨A', c', rfl, hr, hx, hf⟩
      refine ⟨A', c', ?_, hr, hx, hf⟩
      by_cases hf : nx = (p.prog.length : Int)
      · simp [Pc.on, hf]
      · simp [Pc.on, hf]

end Go.Proofs.Yteiabmbfjfaboaa
