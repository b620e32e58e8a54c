/-
  Contracts of package machine: what a step makes of words and registers.
-/
import Derived.Test.YteiabmbfjfaboaaRow
import Derived.Deep.DeepCutAuto
import Derived.Deep.RegionHeld3
set_option linter.unusedVariables false
set_option linter.unusedSimpArgs false
namespace Go.Proofs.Yteiabmbfjfaboaa
open Go.RowKit

theorem Bx.reg {W : World} {b o : Nat} {cs : Array Value} (h : Bx W b cs) {rs : Nat → Int} (hc : ∀ j, j < 4 → cs[o + j]? = some (.int .u64 (rs j))) {r : Nat} (hr : r < 4) : W.cell? ⟨b, o + r, none⟩ = some (.int .u64 (rs r)) :=
  (h.cell _).trans (hc r hr)
theorem rgs_get (rs : Nat → Int) : ∀ j, j < 4 → (#[.int .u64 (rs 0), .int .u64 (rs 1), .int .u64 (rs 2), .int .u64 (rs 3)] : Array Value)[j]? = some (.int .u64 (rs j)) := by
  intro j hj
  match j, hj with
  | 0, _ => rfl
  | 1, _ => rfl
  | 2, _ => rfl
  | 3, _ => rfl
/-- A register's cell turned: what all four are behind it. -/
theorem reg_set {W : World} {b : Nat} {rs : Nat → Int} (h : Bx W b #[.int .u64 (rs 0), .int .u64 (rs 1), .int .u64 (rs 2), .int .u64 (rs 3)]) {r : Nat} (hr : r < 4) (v : Int) (j : Nat) (hj : j < 4) :
    (W.setCell ⟨b, r, none⟩ (.int .u64 v)).cell? ⟨b, j, none⟩ = some (.int .u64 (upd rs r v j)) := by
  have h0 := (h.cell j).trans (rgs_get rs j hj)
  by_cases e : j = r
  · subst e
    rw [upd_eq]
    exact World.cell?_setCell_same _ _ _ h0
  · rw [upd_ne _ _ _ _ e, World.cell?_setCell_other _ _ _ _ (fun x => e (by injection x with _ x; exact x.symm))]
    exact h0

theorem Rd.drew {w : World} {size n : Nat} {A : Option Addr} {xs : List Value} (h : Rd w size A n xs) : Rd w.drew size A n xs := h
theorem Rd.past {w : World} {size n K g j : Nat} {A : Option Addr} {xs : List Value} {u : Value} (hf : ∀ q, A = some q → K ≤ q.block) (hg : g < K) (h : Rd w size A n xs) : Rd (w.setCell ⟨g, j, none⟩ u) size A n xs :=
  ⟨h.1, fun k u' hu => by
    obtain ⟨ad, ha, hc⟩ := h.2 k u' hu
    refine ⟨ad, ha, ?_⟩
    have hb := hf ad ha
    rw [World.cell?_setCell_other _ _ _ _ (fun e => by
      have : (ad.add k).block = g := congrArg Addr.block e.symm
      rw [addr_block] at this
      omega)]
    exact hc⟩

set_option maxHeartbeats 2000000 in
theorem onWord_1 (ad : Addr) (c : Nat) (ws : List Int) (x : Ins) (rs : Nat → Int) (w : World) (h : Rd w 1 (some ad) 64 (Us ws)) (i r : Nat) (hi : x.i = i) (hr : x.r = r) (hi4 : i < 64) (hr4 : r < 4)
    (hk : (x.k == 2) = false) (hk' : (x.k != 2) = true) (now ans : Int) (hch : change x.k x.a (rs r) (ith ws i) = some (now, ans)) :
    Calls Try.prog 33 #[.slice (some ad) 64 c, .agg #[.int .i64 x.k, .int .i64 x.r, .int .i64 x.i, .int .u64 x.a, .int .i64 x.b], .agg #[.int .u64 (rs 0), .int .u64 (rs 1), .int .u64 (rs 2), .int .u64 (rs 3)]] w fun e w' =>
      ∃ A' c', e = .returned (.tuple #[.slice A' 64 c', .agg #[.int .u64 ((upd rs r ans) 0), .int .u64 ((upd rs r ans) 1), .int .u64 ((upd rs r ans) 2), .int .u64 ((upd rs r ans) 3)]]) ∧ Rd w' 1 A' 64 (Us (ws.set i now)) ∧ Ext w w' ∧ ∀ q, A' = some q → w.heap.size ≤ q.block := by
  have HD := Lib.hid (fun (W : World) (hW : Ext w W) => do_new ad 64 c ws x.k x.a (rs r) i W (h.to hW) (by omega) hi4 now ans hch)
  clear hch
  rcases (by omega : r = 0 ∨ r = 1 ∨ r = 2 ∨ r = 3) with rfl | rfl | rfl | rfl
  · go_enter Try.func33, Try.ntmps33
    go_upto_region 1 with fail
    go_region
    go_wp2_with fail
    refine (HD.out _ (((((Ext.refl w).new _).new _).new _).new _).drew).mono ?_; rintro e w1 ⟨A1, c1, rfl, hr1, hx1, hf1⟩
    have hx := hx1.undrew
    have B4 := ((((Bx.new w _ _).alloc _).alloc _).alloc _).to hx
    have B5 := (((Bx.new (w.alloc _) _ _).alloc _).alloc _).to hx
    have B7 := ((Bx.new ((w.alloc _).alloc _) _ _).alloc _).to hx
    simp at B5 B7
    have E1 := ((((Ext.refl w).new _).new _).new _).step ((Ext.refl _).new _ |>.step hx)
    clear hx1 hx
    have k0 := B4.cell; have k1 := B5.cell; have k2 := B7.cell; have f1 := B5.free; have f2 := B7.free; have z0 := B4.lt; have z1 := B5.lt; have z2 := B7.lt
    go_wp2_with fail
    go_region
    go_wp2_with fail
    replace hf1 : ∀ q, A1 = some q → w.heap.size + 4 ≤ q.block := fun q hq => by
      have := hf1 q hq
      simp at this
      omega
    refine bodyPost_ret (v := .tuple #[.slice A1 64 c1, .agg #[.int .u64 ((upd rs 0 ans) 0), .int .u64 ((upd rs 0 ans) 1), .int .u64 ((upd rs 0 ans) 2), .int .u64 ((upd rs 0 ans) 3)]]) (by simp [results, Try.results33, go_sem, upd, *]) rfl ?_
    refine ⟨_, _, rfl, ?_, ?_, fun q hq => by have := hf1 q hq; omega⟩
    · repeat (first | with_reducible refine Rd.drew ?_ | with_reducible refine Rd.past hf1 (by omega) ?_)
      exact hr1
    · repeat (first | with_reducible refine Ext.drew ?_ | with_reducible refine Ext.set ?_ _ (by omega))
      exact E1

  · go_enter Try.func33, Try.ntmps33
    go_upto_region 1 with fail
    go_region
    go_wp2_with fail
    refine (HD.out _ (((((Ext.refl w).new _).new _).new _).new _).drew).mono ?_; rintro e w1 ⟨A1, c1, rfl, hr1, hx1, hf1⟩
    have hx := hx1.undrew
    have B4 := ((((Bx.new w _ _).alloc _).alloc _).alloc _).to hx
    have B5 := (((Bx.new (w.alloc _) _ _).alloc _).alloc _).to hx
    have B7 := ((Bx.new ((w.alloc _).alloc _) _ _).alloc _).to hx
    simp at B5 B7
    have E1 := ((((Ext.refl w).new _).new _).new _).step ((Ext.refl _).new _ |>.step hx)
    clear hx1 hx
    have k0 := B4.cell; have k1 := B5.cell; have k2 := B7.cell; have f1 := B5.free; have f2 := B7.free; have z0 := B4.lt; have z1 := B5.lt; have z2 := B7.lt
    go_wp2_with fail
    go_region
    go_wp2_with fail
    replace hf1 : ∀ q, A1 = some q → w.heap.size + 4 ≤ q.block := fun q hq => by
      have := hf1 q hq
      simp at this
      omega
    refine bodyPost_ret (v := .tuple #[.slice A1 64 c1, .agg #[.int .u64 ((upd rs 1 ans) 0), .int .u64 ((upd rs 1 ans) 1), .int .u64 ((upd rs 1 ans) 2), .int .u64 ((upd rs 1 ans) 3)]]) (by simp [results, Try.results33, go_sem, upd, *]) rfl ?_
    refine ⟨_, _, rfl, ?_, ?_, fun q hq => by have := hf1 q hq; omega⟩
    · repeat (first | with_reducible refine Rd.drew ?_ | with_reducible refine Rd.past hf1 (by omega) ?_)
      exact hr1
    · repeat (first | with_reducible refine Ext.drew ?_ | with_reducible refine Ext.set ?_ _ (by omega))
      exact E1

  · go_enter Try.func33, Try.ntmps33
    go_upto_region 1 with fail
    go_region
    go_wp2_with fail
    refine (HD.out _ (((((Ext.refl w).new _).new _).new _).new _).drew).mono ?_; rintro e w1 ⟨A1, c1, rfl, hr1, hx1, hf1⟩
    have hx := hx1.undrew
    have B4 := ((((Bx.new w _ _).alloc _).alloc _).alloc _).to hx
    have B5 := (((Bx.new (w.alloc _) _ _).alloc _).alloc _).to hx
    have B7 := ((Bx.new ((w.alloc _).alloc _) _ _).alloc _).to hx
    simp at B5 B7
    have E1 := ((((Ext.refl w).new _).new _).new _).step ((Ext.refl _).new _ |>.step hx)
    clear hx1 hx
    have k0 := B4.cell; have k1 := B5.cell; have k2 := B7.cell; have f1 := B5.free; have f2 := B7.free; have z0 := B4.lt; have z1 := B5.lt; have z2 := B7.lt
    go_wp2_with fail
    go_region
    go_wp2_with fail
    replace hf1 : ∀ q, A1 = some q → w.heap.size + 4 ≤ q.block := fun q hq => by
      have := hf1 q hq
      simp at this
      omega
    refine bodyPost_ret (v := .tuple #[.slice A1 64 c1, .agg #[.int .u64 ((upd rs 2 ans) 0), .int .u64 ((upd rs 2 ans) 1), .int .u64 ((upd rs 2 ans) 2), .int .u64 ((upd rs 2 ans) 3)]]) (by simp [results, Try.results33, go_sem, upd, *]) rfl ?_
    refine ⟨_, _, rfl, ?_, ?_, fun q hq => by have := hf1 q hq; omega⟩
    · repeat (first | with_reducible refine Rd.drew ?_ | with_reducible refine Rd.past hf1 (by omega) ?_)
      exact hr1
    · repeat (first | with_reducible refine Ext.drew ?_ | with_reducible refine Ext.set ?_ _ (by omega))
      exact E1

  · go_enter Try.func33, Try.ntmps33
    go_upto_region 1 with fail
    go_region
    go_wp2_with fail
    refine (HD.out _ (((((Ext.refl w).new _).new _).new _).new _).drew).mono ?_; rintro e w1 ⟨A1, c1, rfl, hr1, hx1, hf1⟩
    have hx := hx1.undrew
    have B4 := ((((Bx.new w _ _).alloc _).alloc _).alloc _).to hx
    have B5 := (((Bx.new (w.alloc _) _ _).alloc _).alloc _).to hx
    have B7 := ((Bx.new ((w.alloc _).alloc _) _ _).alloc _).to hx
    simp at B5 B7
    have E1 := ((((Ext.refl w).new _).new _).new _).step ((Ext.refl _).new _ |>.step hx)
    clear hx1 hx
    have k0 := B4.cell; have k1 := B5.cell; have k2 := B7.cell; have f1 := B5.free; have f2 := B7.free; have z0 := B4.lt; have z1 := B5.lt; have z2 := B7.lt
    go_wp2_with fail
    go_region
    go_wp2_with fail
    replace hf1 : ∀ q, A1 = some q → w.heap.size + 4 ≤ q.block := fun q hq => by
      have := hf1 q hq
      simp at this
      omega
    refine bodyPost_ret (v := .tuple #[.slice A1 64 c1, .agg #[.int .u64 ((upd rs 3 ans) 0), .int .u64 ((upd rs 3 ans) 1), .int .u64 ((upd rs 3 ans) 2), .int .u64 ((upd rs 3 ans) 3)]]) (by simp [results, Try.results33, go_sem, upd, *]) rfl ?_
    refine ⟨_, _, rfl, ?_, ?_, fun q hq => by have := hf1 q hq; omega⟩
    · repeat (first | with_reducible refine Rd.drew ?_ | with_reducible refine Rd.past hf1 (by omega) ?_)
      exact hr1
    · repeat (first | with_reducible refine Ext.drew ?_ | with_reducible refine Ext.set ?_ _ (by omega))
      exact E1


set_option maxHeartbeats 2000000 in
theorem onWord_2 (ad : Addr) (c : Nat) (ws : List Int) (x : Ins) (rs : Nat → Int) (w : World) (h : Rd w 1 (some ad) 64 (Us ws)) (i r : Nat) (hi : x.i = i) (hr : x.r = r) (hi4 : i < 64) (hr4 : r < 4)
    (hk : x.k = 2) :
    Calls Try.prog 33 #[.slice (some ad) 64 c, .agg #[.int .i64 x.k, .int .i64 x.r, .int .i64 x.i, .int .u64 x.a, .int .i64 x.b], .agg #[.int .u64 (rs 0), .int .u64 (rs 1), .int .u64 (rs 2), .int .u64 (rs 3)]] w fun e w' =>
      ∃ A' c', e = .returned (.tuple #[.slice A' 64 c', .agg #[.int .u64 (rs 0), .int .u64 (rs 1), .int .u64 (rs 2), .int .u64 (rs 3)]]) ∧ Rd w' 1 A' 64 (Us (ws.set i (rs r))) ∧ Ext w w' ∧ ∀ q, A' = some q → w.heap.size ≤ q.block := by
  have HD := Lib.hid (fun (W : World) (hW : Ext w W) => do_new ad 64 c ws 2 (rs r) (rs r) i W (h.to hW) (by omega) hi4 (rs r) 0 rfl)
  rcases (by omega : r = 0 ∨ r = 1 ∨ r = 2 ∨ r = 3) with rfl | rfl | rfl | rfl
  · go_enter Try.func33, Try.ntmps33
    go_upto_region 1 with fail
    go_region
    go_wp2_with fail
    refine (HD.out _ (((((Ext.refl w).new _).new _).new _).new _).drew).mono ?_; rintro e w1 ⟨A1, c1, rfl, hr1, hx1, hf1⟩
    have hx := hx1.undrew
    have B4 := ((((Bx.new w _ _).alloc _).alloc _).alloc _).to hx
    have B5 := (((Bx.new (w.alloc _) _ _).alloc _).alloc _).to hx
    have B7 := ((Bx.new ((w.alloc _).alloc _) _ _).alloc _).to hx
    simp at B5 B7
    have E1 := ((((Ext.refl w).new _).new _).new _).step ((Ext.refl _).new _ |>.step hx)
    clear hx1 hx
    have k0 := B4.cell; have k1 := B5.cell; have k2 := B7.cell; have f1 := B5.free; have f2 := B7.free; have z0 := B4.lt; have z1 := B5.lt; have z2 := B7.lt
    go_wp2_with fail
    go_region
    go_wp2_with fail
    replace hf1 : ∀ q, A1 = some q → w.heap.size + 4 ≤ q.block := fun q hq => by
      have := hf1 q hq
      simp at this
      omega
    refine bodyPost_ret (v := .tuple #[.slice A1 64 c1, .agg #[.int .u64 (rs 0), .int .u64 (rs 1), .int .u64 (rs 2), .int .u64 (rs 3)]]) (by simp [results, Try.results33, go_sem, *]) rfl ?_
    refine ⟨_, _, rfl, ?_, ?_, fun q hq => by have := hf1 q hq; omega⟩
    · repeat (first | with_reducible refine Rd.drew ?_ | with_reducible refine Rd.past hf1 (by omega) ?_)
      exact hr1
    · repeat (first | with_reducible refine Ext.drew ?_ | with_reducible refine Ext.set ?_ _ (by omega))
      exact E1
  · go_enter Try.func33, Try.ntmps33
    go_upto_region 1 with fail
    go_region
    go_wp2_with fail
    refine (HD.out _ (((((Ext.refl w).new _).new _).new _).new _).drew).mono ?_; rintro e w1 ⟨A1, c1, rfl, hr1, hx1, hf1⟩
    have hx := hx1.undrew
    have B4 := ((((Bx.new w _ _).alloc _).alloc _).alloc _).to hx
    have B5 := (((Bx.new (w.alloc _) _ _).alloc _).alloc _).to hx
    have B7 := ((Bx.new ((w.alloc _).alloc _) _ _).alloc _).to hx
    simp at B5 B7
    have E1 := ((((Ext.refl w).new _).new _).new _).step ((Ext.refl _).new _ |>.step hx)
    clear hx1 hx
    have k0 := B4.cell; have k1 := B5.cell; have k2 := B7.cell; have f1 := B5.free; have f2 := B7.free; have z0 := B4.lt; have z1 := B5.lt; have z2 := B7.lt
    go_wp2_with fail
    go_region
    go_wp2_with fail
    replace hf1 : ∀ q, A1 = some q → w.heap.size + 4 ≤ q.block := fun q hq => by
      have := hf1 q hq
      simp at this
      omega
    refine bodyPost_ret (v := .tuple #[.slice A1 64 c1, .agg #[.int .u64 (rs 0), .int .u64 (rs 1), .int .u64 (rs 2), .int .u64 (rs 3)]]) (by simp [results, Try.results33, go_sem, *]) rfl ?_
    refine ⟨_, _, rfl, ?_, ?_, fun q hq => by have := hf1 q hq; omega⟩
    · repeat (first | with_reducible refine Rd.drew ?_ | with_reducible refine Rd.past hf1 (by omega) ?_)
      exact hr1
    · repeat (first | with_reducible refine Ext.drew ?_ | with_reducible refine Ext.set ?_ _ (by omega))
      exact E1
  · go_enter Try.func33, Try.ntmps33
    go_upto_region 1 with fail
    go_region
    go_wp2_with fail
    refine (HD.out _ (((((Ext.refl w).new _).new _).new _).new _).drew).mono ?_; rintro e w1 ⟨A1, c1, rfl, hr1, hx1, hf1⟩
    have hx := hx1.undrew
    have B4 := ((((Bx.new w _ _).alloc _).alloc _).alloc _).to hx
    have B5 := (((Bx.new (w.alloc _) _ _).alloc _).alloc _).to hx
    have B7 := ((Bx.new ((w.alloc _).alloc _) _ _).alloc _).to hx
    simp at B5 B7
    have E1 := ((((Ext.refl w).new _).new _).new _).step ((Ext.refl _).new _ |>.step hx)
    clear hx1 hx
    have k0 := B4.cell; have k1 := B5.cell; have k2 := B7.cell; have f1 := B5.free; have f2 := B7.free; have z0 := B4.lt; have z1 := B5.lt; have z2 := B7.lt
    go_wp2_with fail
    go_region
    go_wp2_with fail
    replace hf1 : ∀ q, A1 = some q → w.heap.size + 4 ≤ q.block := fun q hq => by
      have := hf1 q hq
      simp at this
      omega
    refine bodyPost_ret (v := .tuple #[.slice A1 64 c1, .agg #[.int .u64 (rs 0), .int .u64 (rs 1), .int .u64 (rs 2), .int .u64 (rs 3)]]) (by simp [results, Try.results33, go_sem, *]) rfl ?_
    refine ⟨_, _, rfl, ?_, ?_, fun q hq => by have := hf1 q hq; omega⟩
    · repeat (first | with_reducible refine Rd.drew ?_ | with_reducible refine Rd.past hf1 (by omega) ?_)
      exact hr1
    · repeat (first | with_reducible refine Ext.drew ?_ | with_reducible refine Ext.set ?_ _ (by omega))
      exact E1
  · go_enter Try.func33, Try.ntmps33
    go_upto_region 1 with fail
    go_region
    go_wp2_with fail
    refine (HD.out _ (((((Ext.refl w).new _).new _).new _).new _).drew).mono ?_; rintro e w1 ⟨A1, c1, rfl, hr1, hx1, hf1⟩
    have hx := hx1.undrew
    have B4 := ((((Bx.new w _ _).alloc _).alloc _).alloc _).to hx
    have B5 := (((Bx.new (w.alloc _) _ _).alloc _).alloc _).to hx
    have B7 := ((Bx.new ((w.alloc _).alloc _) _ _).alloc _).to hx
    simp at B5 B7
    have E1 := ((((Ext.refl w).new _).new _).new _).step ((Ext.refl _).new _ |>.step hx)
    clear hx1 hx
    have k0 := B4.cell; have k1 := B5.cell; have k2 := B7.cell; have f1 := B5.free; have f2 := B7.free; have z0 := B4.lt; have z1 := B5.lt; have z2 := B7.lt
    go_wp2_with fail
    go_region
    go_wp2_with fail
    replace hf1 : ∀ q, A1 = some q → w.heap.size + 4 ≤ q.block := fun q hq => by
      have := hf1 q hq
      simp at this
      omega
    refine bodyPost_ret (v := .tuple #[.slice A1 64 c1, .agg #[.int .u64 (rs 0), .int .u64 (rs 1), .int .u64 (rs 2), .int .u64 (rs 3)]]) (by simp [results, Try.results33, go_sem, *]) rfl ?_
    refine ⟨_, _, rfl, ?_, ?_, fun q hq => by have := hf1 q hq; omega⟩
    · repeat (first | with_reducible refine Rd.drew ?_ | with_reducible refine Rd.past hf1 (by omega) ?_)
      exact hr1
    · repeat (first | with_reducible refine Ext.drew ?_ | with_reducible refine Ext.set ?_ _ (by omega))
      exact E1

end Go.Proofs.Yteiabmbfjfaboaa
