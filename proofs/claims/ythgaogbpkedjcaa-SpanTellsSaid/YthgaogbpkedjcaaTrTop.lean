/-
  Contracts: whether a node may be the top of a map (isTop, its closure).
-/
import Derived.Test.YthgaogbpkedjcaaGH
set_option linter.unusedVariables false
set_option linter.unusedSimpArgs false
namespace Go.Proofs.Ythgaogbpkedjcaa
open Go.RowKit

/-- THE OPERATION, in a region that is walked in whatever later world: a whole node is read. -/
theorem wpQuiet_load_node {ops : Array Oper} {rest : List Oper} {o : Oper} {a : Act} {w0 : World} {Q : Act → Prop} (hgd : Region.wanted o (yielded ops a.tmps) = true) (x : Operand) (ho : o.op = .load 66 x)
    (A : Addr) (hx : a.eval x = .pointer (some A)) (n : Nd) (hn : NdAt w0 A n)
    (h : wpQuiet Try.prog ops (fun w' => ∃ q : Later w0, w' = q.w) Q rest (a.put o.dst (.agg n.arr))) : wpQuiet Try.prog ops (fun w' => ∃ q : Later w0, w' = q.w) Q (o :: rest) a :=
  BigFrame.wpQuiet_want hgd fun K hK => ⟨.agg n.arr, fun w hw => by
    obtain ⟨q, rfl⟩ := hw
    unfold Oper.quietAt execOp
    simp only [ho, hx, Sem.run_bind, (hn.to q.ext).load, Sem.run_pure, Result.andThen_ok]
    exact ⟨rfl, rfl⟩, hK _ h⟩

/-- A kid that may be under a key. -/
def KidOk (ns : List Nd) (k z : Int) : Prop := z = 0 ∨ Bef k (nodeF ns z).n

set_option maxHeartbeats 1000000 in
theorem kidWrong_is (A B : Option Addr) (n c m d : Nat) (ns : List Nd) (x : Nd) (z : Int) (bn ba : Nat) (w : World) (hn : Bx w bn x.arr) (ha : Bx w ba #[.slice A n c, .slice B m d]) (h : Rd w 16 A n (flat Nd.cells ns)) (hU : U z) (b : Bool) (hb : b = true ↔ KidOk ns x.n z) :
    Calls Try.prog 80 #[.int .u64 z, .pointer (some ⟨bn, 0, none⟩), .pointer (some ⟨ba, 0, none⟩)] w fun e w' => e = .returned (.bool (!b)) ∧ Ext w w' := by
  by_cases hz : z = 0
  · subst hz
    obtain rfl : b = true := hb.2 (.inl rfl)
    clear hb
    go_enter Try.func80, Try.ntmps80
    go_wp2_with fail
    refine wp_region_later w (Ext.refl _) (by kernel_rfl) (by kernel_rfl) ?_
    repeat (go_big_quiet_step (fail))
    refine wpQuiet_nil ?_
    rintro _ ⟨q, rfl⟩
    go_wp2_with fail
    go_ret
    exact ⟨rfl, q.ext⟩
  · have hz1 : (z != 0) = true := by simp [hz]
    have HN := Lib.hid (fun W (hW : Ext w W) => nodeOf_is A B n c m d ns z W hU.1 hU.2 (h.to hW))
    have HB := Lib.hid (show b = bef x.n (nodeF ns z).n by
      rw [Bool.eq_iff_iff, hb, bef_iff]
      exact ⟨fun h => h.resolve_left hz, .inr⟩)
    obtain ⟨y, hy⟩ : ∃ y, y = nodeF ns z := ⟨_, rfl⟩
    rw [← hy] at HN HB
    have hfn := nd_n y
    obtain ⟨k, hk⟩ : ∃ k, k = x.n := ⟨_, rfl⟩
    obtain ⟨j, hj⟩ : ∃ j, j = y.n := ⟨_, rfl⟩
    rw [← hk, ← hj] at HB
    rw [← hj] at hfn
    have HF := Lib.hid (fun W => Before_is k j W)
    rw [← HB.out] at HF
    have s0 := fun q : Later w => (ha.to q.ext).cell 0
    have s1 := fun q : Later w => (ha.to q.ext).cell 1
    have s2 : ∀ q : Later w, q.w.cell? ⟨bn, 2, none⟩ = some (.int .i64 k) := fun q => by rw [hk]; exact ((hn.to q.ext).cell 2).trans x.a2
    simp only [List.getElem?_toArray, List.getElem?_cons_zero, List.getElem?_cons_succ] at s0 s1
    clear hb hz hy hk hj HB
    go_enter Try.func80, Try.ntmps80
    go_wp2_with fail
    refine wp_region_later w (Ext.refl _) (by kernel_rfl) (by kernel_rfl) ?_
    repeat (go_big_quiet_step (first
      | (go_at_call 56; exact later_call (fun W hW => HN.out W hW))
      | (go_at_call 39; exact later_call (fun W hW => HF.out W))))
    refine wpQuiet_nil ?_
    rintro _ ⟨q, rfl⟩
    go_wp2_with fail
    go_ret
    exact ⟨rfl, q.ext⟩

/-- What IndexFunc tells: -1 just if all may be. -/
def ToldK (b : Bool) (w : World) (e : Ending) (w' : World) : Prop := (∃ j : Int, e = .returned (.int .i64 j) ∧ (b = true → j = -1) ∧ (b = false → 0 ≤ j)) ∧ Ext w w'

set_option maxHeartbeats 1000000 in
theorem indexK_is (A B : Option Addr) (n c m d : Nat) (ns : List Nd) (x : Nd) (bn ba : Nat) (w : World) (hn : Bx w bn x.arr) (ha : Bx w ba #[.slice A n c, .slice B m d]) (h : Rd w 16 A n (flat Nd.cells ns)) (ad : Addr) (cK : Nat) (z0 z1 : Int) (hU0 : U z0) (hU1 : U z1) (hK : Rd w 1 (some ad) 2 (Us [z0, z1])) (b : Bool) (hb : b = true ↔ KidOk ns x.n z0 ∧ KidOk ns x.n z1) :
    Calls Try.prog 89 #[.slice (some ad) 2 cK, .func (.func 80) #[] #[.pointer (some ⟨bn, 0, none⟩), .pointer (some ⟨ba, 0, none⟩)]] w (ToldK b w) := by
  obtain ⟨ad0, e0, c0⟩ := hK.2 0 (.int .u64 z0) rfl
  obtain ⟨ad1, e1, c1⟩ := hK.2 1 (.int .u64 z1) rfl
  injection e0 with e0
  injection e1 with e1
  subst e0
  obtain rfl : ad = ad1 := e1
  have HB := Lib.hid hb
  obtain ⟨b0, hb0⟩ : ∃ b0 : Bool, b0 = true ↔ KidOk ns x.n z0 := by
    by_cases hq : KidOk ns x.n z0
    · exact ⟨true, by simp [hq]⟩
    · exact ⟨false, by simp [hq]⟩
  obtain ⟨b1, hb1⟩ : ∃ b1 : Bool, b1 = true ↔ KidOk ns x.n z1 := by
    by_cases hq : KidOk ns x.n z1
    · exact ⟨true, by simp [hq]⟩
    · exact ⟨false, by simp [hq]⟩
  have HC0 := Lib.hid c0
  have HC1 := Lib.hid c1
  have HW0 := Lib.hid (fun W (hW : Ext w W) => kidWrong_is A B n c m d ns x z0 bn ba W (hn.to hW) (ha.to hW) (h.to hW) hU0 b0 hb0)
  have HW1 := Lib.hid (fun W (hW : Ext w W) => kidWrong_is A B n c m d ns x z1 bn ba W (hn.to hW) (ha.to hW) (h.to hW) hU1 b1 hb1)
  have HBB := Lib.hid (show b = (b0 && b1) by rw [Bool.eq_iff_iff, hb, Bool.and_eq_true, hb0, hb1])
  clear hb hb0 hb1 hn ha h hK c0 c1
  go_enter Try.func89, Try.ntmps89
  go_wp2_with fail
  go_loopw [5, 8] (fun _ j wr => Hid (Ext w wr) ∧ ∃ k : Nat, k ≤ 2 ∧ j = .int .i64 k ∧ Hid (1 ≤ k → b0 = true) ∧ Hid (2 ≤ k → b1 = true)) (fun _ j _ => 2 - (intOf j).toNat)
  case atStart => exact ⟨Lib.hid (Ext.refl _), 0, by omega, rfl, Lib.hid (fun h => by omega), Lib.hid (fun h => by omega)⟩
  case round =>
    obtain ⟨hx, k, hk, rfl, h0, h1⟩ := hrel
    rename World => w5
    rcases (by omega : k = 0 ∨ k = 1 ∨ k = 2) with rfl | rfl | rfl
    · have q0 : w5.cell? ad = some (.int .u64 z0) := hx.out.cellOf HC0.out
      go_wp2_with fail
      refine (HW0.out _ hx.out).mono ?_; rintro e w6 ⟨rfl, hx6⟩
      have X6 := Lib.hid (hx.out.step hx6)
      clear hx6
      cases b0
      · obtain rfl : b = false := by have := HBB.out; simpa using this
        go_wp2_with fail
        go_ret
        exact ⟨⟨_, rfl, by simp, by simp⟩, X6.out⟩
      · go_wp2_with fail
        go_roundw
        case rel => exact ⟨X6, 1, by omega, by go_num, Lib.hid (by simp), Lib.hid (fun h => by omega)⟩
        case measure => simp [intOf]
    · have q0 : w5.cell? { block := ad.block, off := ad.off + 1 } = some (.int .u64 z1) := hx.out.cellOf HC1.out
      go_wp2_with fail
      refine (HW1.out _ hx.out).mono ?_; rintro e w6 ⟨rfl, hx6⟩
      have X6 := Lib.hid (hx.out.step hx6)
      clear hx6
      cases b1
      · obtain rfl : b = false := by have := HBB.out; simpa using this
        go_wp2_with fail
        go_ret
        exact ⟨⟨_, rfl, by simp, by simp⟩, X6.out⟩
      · go_wp2_with fail
        go_roundw
        case rel => exact ⟨X6, 2, by omega, by go_num, Lib.hid (fun _ => h0.out (by omega)), Lib.hid (by simp)⟩
        case measure => simp [intOf]
    · obtain rfl : b = true := by have := HBB.out; rw [h0.out (by omega), h1.out (by omega)] at this; simpa using this
      clear h0 h1
      go_wp2_with fail
      go_ret
      exact ⟨⟨_, rfl, by simp, by simp⟩, hx.out⟩

theorem containsK_is (A B : Option Addr) (n c m d : Nat) (ns : List Nd) (x : Nd) (bn ba : Nat) (w : World) (hn : Bx w bn x.arr) (ha : Bx w ba #[.slice A n c, .slice B m d]) (h : Rd w 16 A n (flat Nd.cells ns)) (ad : Addr) (cK : Nat) (z0 z1 : Int) (hU0 : U z0) (hU1 : U z1) (hK : Rd w 1 (some ad) 2 (Us [z0, z1])) (b : Bool) (hb : b = true ↔ KidOk ns x.n z0 ∧ KidOk ns x.n z1) :
    Calls Try.prog 79 #[.slice (some ad) 2 cK, .func (.func 80) #[] #[.pointer (some ⟨bn, 0, none⟩), .pointer (some ⟨ba, 0, none⟩)]] w fun e w' => e = .returned (.bool (!b)) ∧ Ext w w' := by
  have HI := Lib.hid (indexK_is A B n c m d ns x bn ba w hn ha h ad cK z0 z1 hU0 hU1 hK b hb)
  clear hb hn ha h hK
  go_enter Try.func79, Try.ntmps79
  go_wp2_with fail
  refine HI.out.mono ?_; rintro e w1 ⟨⟨j, rfl, h1, h2⟩, hx⟩
  cases b
  · have := h2 rfl
    clear h1 h2
    go_wp2_with fail
    go_ret
    exact ⟨rfl, hx⟩
  · obtain rfl := h1 rfl
    clear h1 h2
    go_wp2_with fail
    go_ret
    exact ⟨rfl, hx⟩

/-- A node may be the top of a map, as far as it and its kids show it. -/
structure TopOk (ns : List Nd) (x : Nd) : Prop where
  is : x = trNd x.g x.n x.v (sumI (nodeF ns x.r0).s (nodeF ns x.r1).s) x.r0 x.r1
  le : x.s ≤ 200
  k0 : KidOk ns x.n x.r0
  k1 : KidOk ns x.n x.r1

set_option maxHeartbeats 2000000 in
theorem isTop_is (A B : Option Addr) (n c m d : Nat) (ns : List Nd) (x : Nd) (w : World) (h : Rd w 16 A n (flat Nd.cells ns)) (hx : x.Ok) (b : Bool) (hb : b = true ↔ TopOk ns x) :
    Calls Try.prog 66 #[.agg #[.slice A n c, .slice B m d], .agg x.arr] w fun e w' => e = .returned (.bool b) ∧ Ext w w' := by
  obtain ⟨w1, hw1⟩ : ∃ w1, w1 = w.alloc (.cells #[.slice A n c, .slice B m d] 25) := ⟨_, rfl⟩
  obtain ⟨w2, hw2⟩ : ∃ w2, w2 = w1.alloc (.cells x.arr 66) := ⟨_, rfl⟩
  obtain ⟨B1, hx1, hs1⟩ := box_made hw1
  obtain ⟨B2, hx2, hs2⟩ := box_made hw2
  rw [hs1] at B2
  have hU0 : U x.r0 := hx x.r0 (by simp [Nd.kids])
  have hU1 : U x.r1 := hx x.r1 (by simp [Nd.kids])
  have X2 := Lib.hid (hx1.step hx2)
  have HA := Lib.hid (h.to X2.out)
  have hkids : Rd w2 1 (some ⟨w.heap.size + 1, 5, none⟩) 2 (Us [x.r0, x.r1]) := B2.kids.take (k := 2) (by omega)
  obtain ⟨y, hy⟩ : ∃ y, y = trNd x.g x.n x.v (sumI (nodeF ns x.r0).s (nodeF ns x.r1).s) x.r0 x.r1 := ⟨_, rfl⟩
  have HW := Lib.hid (fun W (hW : Ext w2 W) => nodeWith_is A B n c m d ns x.n x.v x.g x.r0 x.r1 (some ⟨w.heap.size + 1, 5, none⟩) 9 W (HA.out.to hW) (hkids.to hW) hU0 hU1)
  rw [← hy] at HW
  obtain ⟨b3, hb3⟩ : ∃ b3 : Bool, b3 = true ↔ KidOk ns x.n x.r0 ∧ KidOk ns x.n x.r1 := by
    by_cases hq : KidOk ns x.n x.r0 ∧ KidOk ns x.n x.r1
    · exact ⟨true, by simp [hq]⟩
    · exact ⟨false, by simp [hq]⟩
  have HC := Lib.hid (fun W (hW : Ext w2 W) => containsK_is A B n c m d ns x (w.heap.size + 1) w.heap.size W (B2.to hW) ((B1.to hx2).to hW) (HA.out.to hW) ⟨w.heap.size + 1, 5, none⟩ 9 x.r0 x.r1 hU0 hU1 (hkids.to hW) b3 hb3)
  have n2 := B2.node
  have s0 := fun q : Later w2 => ((B1.to hx2).to q.ext).cell 0
  have s1 := fun q : Later w2 => ((B1.to hx2).to q.ext).cell 1
  have s2 := fun q : Later w2 => ((B2.to q.ext).cell 1).trans x.a1
  have s3 := fun q : Later w2 => ((B2.to q.ext).cell 2).trans x.a2
  have s4 := fun q : Later w2 => ((B2.to q.ext).cell 3).trans x.a3
  have s5 := fun q : Later w2 => ((B2.to q.ext).cell 4).trans x.a4
  simp only [List.getElem?_toArray, List.getElem?_cons_zero, List.getElem?_cons_succ] at s0 s1
  obtain ⟨b2, hb2⟩ : ∃ b2 : Bool, b2 = decide (x = y) := ⟨_, rfl⟩
  have heq : ∀ W, (Op.equalIn 10000 66 (.agg x.arr) (.agg y.arr)).run Try.prog W = .ok b2 W := fun W => by rw [hb2]; exact nd_eq x y W
  have HBB := Lib.hid (show b = true ↔ (b2 = true ∧ x.s ≤ 200) ∧ b3 = true by
    rw [hb, hb3, hb2, decide_eq_true_eq, hy]
    exact ⟨fun h => ⟨⟨h.is, h.le⟩, h.k0, h.k1⟩, fun h => ⟨h.1.1, h.1.2, h.2.1, h.2.2⟩⟩)
  have hmf : ∀ (fn : Fn) (first cap : Array Value) (w : World), (Instr.makeFunc fn first cap).run Try.prog w = .ok (.func fn first cap) w := fun fn first cap w => rfl
  have H1 := Lib.hid hw1
  have H2 := Lib.hid hw2
  obtain ⟨ss, hss⟩ : ∃ ss, ss = x.s := ⟨_, rfl⟩
  rw [← hss] at s5 HBB
  clear hw1 hw2 hx1 hx2 hs1 hs2 B1 B2 hkids hb hb3 hb2 hy hss h hx
  go_enter Try.func66, Try.ntmps66
  go_wp2_with fail
  rw [← H1.out, ← H2.out]
  by_cases hcond : b2 = true ∧ ss ≤ 200
  · obtain ⟨rfl, hle⟩ := hcond
    have hle' : ¬ (200 < ss) := by omega
    obtain rfl : b = b3 := Bool.eq_iff_iff.2 (HBB.out.trans ⟨fun h => h.2, fun h => ⟨⟨rfl, hle⟩, h⟩⟩)
    clear HBB
    refine wp_region_later w2 (Ext.refl _) (by kernel_rfl) (by kernel_rfl) ?_
    repeat (first
      | go_big_quiet_step (first | (go_at_call 62; exact later_call (fun W hW => HW.out W hW)))
      | (refine wpQuiet_load_node ?_ (.tmp 3) (by rfl) _ ?_ x n2 ?_
         · rfl
         · rfl
         simp only [Act.put, List.setIfInBounds_toArray, List.set_cons_zero, List.set_cons_succ]))
    refine wpQuiet_nil ?_
    rintro _ ⟨q, rfl⟩
    clear s0 s1 s2 s3 s4 s5
    have HX := Lib.hid q.ext
    go_wp2_with fail
    refine (HC.out _ HX.out).mono ?_; rintro e w6 ⟨rfl, hx6⟩
    go_wp2_with fail
    go_ret
    exact ⟨by simp, X2.out.step (HX.out.step hx6)⟩
  · obtain rfl : b = false := by
      cases b
      · rfl
      · exact absurd (HBB.out.1 rfl).1 hcond
    clear HBB
    cases b2
    · clear hcond
      refine wp_region_later w2 (Ext.refl _) (by kernel_rfl) (by kernel_rfl) ?_
      repeat (first
        | go_big_quiet_step (first | (go_at_call 62; exact later_call (fun W hW => HW.out W hW)))
        | (refine wpQuiet_load_node ?_ (.tmp 3) (by rfl) _ ?_ x n2 ?_
           · rfl
           · rfl
           simp only [Act.put, List.setIfInBounds_toArray, List.set_cons_zero, List.set_cons_succ]))
      refine wpQuiet_nil ?_
      rintro _ ⟨q, rfl⟩
      go_wp2_with fail
      go_ret
      exact ⟨rfl, X2.out.step q.ext⟩
    · have hle : 200 < ss := by
        have : ¬ ss ≤ 200 := fun h => hcond ⟨rfl, h⟩
        omega
      clear hcond
      refine wp_region_later w2 (Ext.refl _) (by kernel_rfl) (by kernel_rfl) ?_
      repeat (first
        | go_big_quiet_step (first | (go_at_call 62; exact later_call (fun W hW => HW.out W hW)))
        | (refine wpQuiet_load_node ?_ (.tmp 3) (by rfl) _ ?_ x n2 ?_
           · rfl
           · rfl
           simp only [Act.put, List.setIfInBounds_toArray, List.set_cons_zero, List.set_cons_succ]))
      refine wpQuiet_nil ?_
      rintro _ ⟨q, rfl⟩
      go_wp2_with fail
      go_ret
      exact ⟨rfl, X2.out.step q.ext⟩

end Go.Proofs.Ythgaogbpkedjcaa
