/-
  Contract: the node that a map has of a key, a value and its kids (nodeWith).
-/
import Derived.Test.YtjiehlhnocgneaaTrOut
set_option linter.unusedVariables false
set_option linter.unusedSimpArgs false
namespace Go.Proofs.Ytjiehlhnocgneaa
open Go.RowKit

def sumI (a b : Int) : Int := wrap64 (wrap64 (1 + a) + b)
theorem sumI_is {a b : Int} (h0 : 0 ≤ a) (h1 : 0 ≤ b) (h2 : a + b ≤ 1000) : sumI a b = a + b + 1 := by
  unfold sumI wrap64
  omega
/-- The node behind some rounds. -/
def rndN (g key v k0 k1 s0 s1 : Int) : Nat → Nd
  | 0 => trNd g key v 1 0 0
  | 1 => trNd g key v (wrap64 (1 + s0)) k0 0
  | _ => trNd g key v (sumI s0 s1) k0 k1

theorem rndN_a4 (g key v k0 k1 s0 s1 : Int) : (rndN g key v k0 k1 s0 s1 0).s = 1 ∧ (rndN g key v k0 k1 s0 s1 1).s = wrap64 (1 + s0) := ⟨rfl, rfl⟩
theorem rnd_set0 (g key v k0 k1 s0 s1 : Int) : ((rndN g key v k0 k1 s0 s1 0).arr.setIfInBounds 5 (.int .u64 k0)).setIfInBounds 4 (.int .i64 (wrap64 (1 + s0))) = (rndN g key v k0 k1 s0 s1 1).arr := rfl
theorem rnd_set1 (g key v k0 k1 s0 s1 : Int) : ((rndN g key v k0 k1 s0 s1 1).arr.setIfInBounds 6 (.int .u64 k1)).setIfInBounds 4 (.int .i64 (wrap64 (wrap64 (1 + s0) + s1))) = (rndN g key v k0 k1 s0 s1 2).arr := rfl

set_option maxHeartbeats 1000000 in
theorem nodeWith_is (A B : Option Addr) (n c m d : Nat) (ns : List Nd) (key v gen k0 k1 : Int) (K : Option Addr) (cK : Nat) (w : World) (h : Rd w 16 A n (flat Nd.cells ns)) (hK : Rd w 1 K 2 (Us [k0, k1])) (hU0 : U k0) (hU1 : U k1) :
    Calls Try.prog 72 #[.agg #[.slice A n c, .slice B m d], .int .i64 key, .int .i64 v, .int .i64 gen, .slice K 2 cK] w fun e w' => e = .returned (.agg (trNd gen key v (sumI (nodeF ns k0).s (nodeF ns k1).s) k0 k1).arr) ∧ Ext w w' := by
  obtain ⟨ak, rfl, hcK⟩ := hK.2 0 (.int .u64 k0) rfl
  obtain ⟨ak', hak, hcK1⟩ := hK.2 1 (.int .u64 k1) rfl
  injection hak with hak
  subst hak
  obtain ⟨w1, hw1⟩ : ∃ w1, w1 = w.alloc (.cells #[.slice A n c, .slice B m d] 25) := ⟨_, rfl⟩
  obtain ⟨w2, hw2⟩ : ∃ w2, w2 = w1.alloc (.cells #[.int .i64 0, .int .i64 0, .int .i64 0, .int .i64 0, .int .i64 0, .int .u64 0, .int .u64 0, .int .u64 0, .int .u64 0, .int .u64 0, .int .u64 0, .int .u64 0, .int .u64 0, .int .u64 0, .int .i64 0, .int .i64 0] 76) := ⟨_, rfl⟩
  obtain ⟨w3, hw3⟩ : ∃ w3, w3 = w2.alloc (.cells #[.int .i64 0, .int .i64 0, .int .i64 0, .int .i64 0, .int .i64 0, .int .u64 0, .int .u64 0, .int .u64 0, .int .u64 0, .int .u64 0, .int .u64 0, .int .u64 0, .int .u64 0, .int .u64 0, .int .i64 0, .int .i64 0] 76) := ⟨_, rfl⟩
  obtain ⟨B1, hx1, hs1⟩ := box_made hw1
  obtain ⟨B2, hx2, hs2⟩ := box_made hw2
  obtain ⟨B3, hx3, hs3⟩ := box_made hw3
  rw [hs1] at B2
  rw [hs2, hs1] at B3
  have HB1 := Lib.hid (B1.to (hx2.step hx3))
  have HB2 := Lib.hid (B2.to hx3)
  have HB3 := Lib.hid B3
  have H1 := Lib.hid hw1
  have H2 := Lib.hid hw2
  have H3 := Lib.hid hw3
  have X3 := Lib.hid ((hx1.step hx2).step hx3)
  have HA := Lib.hid h
  have HK0 := Lib.hid hcK
  have HK1 := Lib.hid hcK1
  obtain ⟨s0, hs0⟩ : ∃ s, s = (nodeF ns k0).s := ⟨_, rfl⟩
  obtain ⟨s1, hs1'⟩ : ∃ s, s = (nodeF ns k1).s := ⟨_, rfl⟩
  have HS0 := Lib.hid (fun W (hW : Ext w W) => sizeOf_is A B n c m d ns k0 W hU0.1 hU0.2 (HA.out.to hW))
  have HS1 := Lib.hid (fun W (hW : Ext w W) => sizeOf_is A B n c m d ns k1 W hU1.1 hU1.2 (HA.out.to hW))
  rw [← hs0] at HS0 ⊢
  rw [← hs1'] at HS1 ⊢
  have hsum := Lib.hid (show wrap64 (wrap64 (1 + s0) + s1) = sumI s0 s1 from rfl)
  clear hw1 hw2 hw3 B1 B2 B3 hx1 hx2 hx3 hs1 hs2 hs3 h hK hcK hcK1 hs0 hs1'
  go_enter Try.func72, Try.ntmps72
  go_wp2_with (first
    | (rw [← H1.out, ← H2.out, ← H3.out]; refine wpList_store_box (by rfl) _ _ (by rfl) _ (by rfl) (trNd gen key v 1 0 0) (by rfl) _ HB3.out rfl ?_; intro w4 hb4 ho4))
  have HB4 := Lib.hid hb4
  have hA4 := Lib.hid (ho4.bx HB1.out (by omega))
  have hR4 := Lib.hid (ho4.bx HB2.out (by omega))
  have X4 := Lib.hid (ho4.new X3.out (by omega))
  clear hb4 ho4
  go_loopw [20, 12, 13] (fun j _ _ wr => Hid (Ext w wr) ∧ Hid (Bx wr w.heap.size #[.slice A n c, .slice B m d]) ∧ Hid (Bx wr (w.heap.size + 1) #[.int .i64 0, .int .i64 0, .int .i64 0, .int .i64 0, .int .i64 0, .int .u64 0, .int .u64 0, .int .u64 0, .int .u64 0, .int .u64 0, .int .u64 0, .int .u64 0, .int .u64 0, .int .u64 0, .int .i64 0, .int .i64 0]) ∧ ∃ k : Nat, k ≤ 2 ∧ j = .int .i64 k ∧ Hid (Bx wr (w.heap.size + 1 + 1) (rndN gen key v k0 k1 s0 s1 k).arr)) (fun j _ _ _ => 2 - (intOf j).toNat)
  case atStart => exact ⟨X4, hA4, hR4, 0, by omega, rfl, HB4⟩
  case round =>
    obtain ⟨hx, hba, hbr, k, hk, rfl, hbn⟩ := hrel
    rename World => w5
    rcases (by omega : k = 0 ∨ k = 1 ∨ k = 2) with rfl | rfl | rfl
    · have c0 : w5.cell? ak = some (.int .u64 k0) := hx.out.cellOf HK0.out
      have f5 := hbn.out.free 5
      have t5 := (hbn.out.cell 5).trans (Nd.a5 _)
      obtain ⟨w6, hw6⟩ : ∃ w6, w6 = w5.setCell ⟨w.heap.size + 1 + 1, 5, none⟩ (.int .u64 k0) := ⟨_, rfl⟩
      have O6 : Only (w.heap.size + 1 + 1) w5 w6 := by rw [hw6]; exact (Only.refl _ _).set _ _
      have B6 : Bx w6 (w.heap.size + 1 + 1) ((rndN gen key v k0 k1 s0 s1 0).arr.setIfInBounds 5 (.int .u64 k0)) := by rw [hw6]; exact hbn.out.set (by rw [Nd.arr_size]; omega) _
      have BA6 := O6.bx hba.out (by omega)
      have BR6 := O6.bx hbr.out (by omega)
      have X6 := O6.new hx.out (by omega)
      have H6 := Lib.hid hw6
      have z0 := fun q : Later w6 => (BA6.to q.ext).cell 0
      have z1 := fun q : Later w6 => (BA6.to q.ext).cell 1
      have z4 : ∀ q : Later w6, q.w.cell? ⟨w.heap.size + 1 + 1, 4, none⟩ = some (.int .i64 1) := fun q => ((B6.to q.ext).cell 4).trans rfl
      simp only [List.getElem?_toArray, List.getElem?_cons_zero, List.getElem?_cons_succ] at z0 z1
      have Z := Lib.hid (And.intro z0 (And.intro z1 z4))
      have HX6 := Lib.hid X6
      have HBB := Lib.hid (And.intro B6 (And.intro BA6 BR6))
      clear hw6 O6 B6 BA6 BR6 X6 z0 z1 z4
      go_wp2_with fail
      rw [← H6.out]
      clear c0 f5 t5
      obtain ⟨z0, z1, z4⟩ := Z.out
      refine wp_region_later_tail 7 w6 (Ext.refl _) (by kernel_rfl) (by kernel_rfl) ?_
      simp only [List.take_succ_cons, List.take_zero, List.drop_succ_cons, List.drop_zero]
      repeat (go_big_quiet_step (first | (go_at_call 39; exact later_call (fun W hW => HS0.out W (HX6.out.step hW)))))
      refine wpQuiet_nil ?_
      rintro _ ⟨q, rfl⟩
      clear z0 z1 z4
      have g4 := (HBB.out.1.to q.ext).free 4
      have g0 : q.w.cell? ⟨w.heap.size + 1 + 1, 4, none⟩ = some (.int .i64 1) := ((HBB.out.1.to q.ext).cell 4).trans rfl
      obtain ⟨w8, hw8⟩ : ∃ w8, w8 = q.w.setCell ⟨w.heap.size + 1 + 1, 4, none⟩ (.int .i64 (wrap64 (1 + s0))) := ⟨_, rfl⟩
      have O8 : Only (w.heap.size + 1 + 1) q.w w8 := by rw [hw8]; exact (Only.refl _ _).set _ _
      have B8 : Bx w8 (w.heap.size + 1 + 1) (rndN gen key v k0 k1 s0 s1 1).arr := by rw [hw8, ← rnd_set0]; exact (HBB.out.1.to q.ext).set (by rw [Array.size_setIfInBounds, Nd.arr_size]; omega) _
      have F8 := Lib.hid (And.intro (O8.new (HX6.out.step q.ext) (by omega)) (And.intro (O8.bx (HBB.out.2.1.to q.ext) (by omega)) (And.intro (O8.bx (HBB.out.2.2.to q.ext) (by omega)) B8)))
      have H8 := Lib.hid hw8
      clear hw8 O8 B8
      go_wp2_with fail
      rw [← H8.out]
      exact ⟨⟨Lib.hid F8.out.1, Lib.hid F8.out.2.1, Lib.hid F8.out.2.2.1, 1, by omega, rfl, Lib.hid F8.out.2.2.2⟩, by simp [intOf]⟩
    · have c0 : w5.cell? { block := ak.block, off := ak.off + 1 } = some (.int .u64 k1) := hx.out.cellOf HK1.out
      have f5 := hbn.out.free 6
      have t5 := (hbn.out.cell 6).trans (Nd.a6 _)
      obtain ⟨w6, hw6⟩ : ∃ w6, w6 = w5.setCell ⟨w.heap.size + 1 + 1, 6, none⟩ (.int .u64 k1) := ⟨_, rfl⟩
      have O6 : Only (w.heap.size + 1 + 1) w5 w6 := by rw [hw6]; exact (Only.refl _ _).set _ _
      have B6 : Bx w6 (w.heap.size + 1 + 1) ((rndN gen key v k0 k1 s0 s1 1).arr.setIfInBounds 6 (.int .u64 k1)) := by rw [hw6]; exact hbn.out.set (by rw [Nd.arr_size]; omega) _
      have BA6 := O6.bx hba.out (by omega)
      have BR6 := O6.bx hbr.out (by omega)
      have X6 := O6.new hx.out (by omega)
      have H6 := Lib.hid hw6
      have z0 := fun q : Later w6 => (BA6.to q.ext).cell 0
      have z1 := fun q : Later w6 => (BA6.to q.ext).cell 1
      have z4 : ∀ q : Later w6, q.w.cell? ⟨w.heap.size + 1 + 1, 4, none⟩ = some (.int .i64 (wrap64 (1 + s0))) := fun q => ((B6.to q.ext).cell 4).trans rfl
      simp only [List.getElem?_toArray, List.getElem?_cons_zero, List.getElem?_cons_succ] at z0 z1
      have Z := Lib.hid (And.intro z0 (And.intro z1 z4))
      have HX6 := Lib.hid X6
      have HBB := Lib.hid (And.intro B6 (And.intro BA6 BR6))
      clear hw6 O6 B6 BA6 BR6 X6 z0 z1 z4
      go_wp2_with fail
      rw [← H6.out]
      clear c0 f5 t5
      obtain ⟨z0, z1, z4⟩ := Z.out
      refine wp_region_later_tail 7 w6 (Ext.refl _) (by kernel_rfl) (by kernel_rfl) ?_
      simp only [List.take_succ_cons, List.take_zero, List.drop_succ_cons, List.drop_zero]
      repeat (go_big_quiet_step (first | (go_at_call 39; exact later_call (fun W hW => HS1.out W (HX6.out.step hW)))))
      refine wpQuiet_nil ?_
      rintro _ ⟨q, rfl⟩
      clear z0 z1 z4
      have g4 := (HBB.out.1.to q.ext).free 4
      have g0 : q.w.cell? ⟨w.heap.size + 1 + 1, 4, none⟩ = some (.int .i64 (wrap64 (1 + s0))) := ((HBB.out.1.to q.ext).cell 4).trans rfl
      obtain ⟨w8, hw8⟩ : ∃ w8, w8 = q.w.setCell ⟨w.heap.size + 1 + 1, 4, none⟩ (.int .i64 (wrap64 (wrap64 (1 + s0) + s1))) := ⟨_, rfl⟩
      have O8 : Only (w.heap.size + 1 + 1) q.w w8 := by rw [hw8]; exact (Only.refl _ _).set _ _
      have B8 : Bx w8 (w.heap.size + 1 + 1) (rndN gen key v k0 k1 s0 s1 2).arr := by rw [hw8, ← rnd_set1]; exact (HBB.out.1.to q.ext).set (by rw [Array.size_setIfInBounds, Nd.arr_size]; omega) _
      have F8 := Lib.hid (And.intro (O8.new (HX6.out.step q.ext) (by omega)) (And.intro (O8.bx (HBB.out.2.1.to q.ext) (by omega)) (And.intro (O8.bx (HBB.out.2.2.to q.ext) (by omega)) B8)))
      have H8 := Lib.hid hw8
      clear hw8 O8 B8
      go_wp2_with fail
      rw [← H8.out]
      exact ⟨⟨Lib.hid F8.out.1, Lib.hid F8.out.2.1, Lib.hid F8.out.2.2.1, 2, by omega, rfl, Lib.hid F8.out.2.2.2⟩, by simp [intOf]⟩
    · have n5 := hbn.out.node
      have HBR := hbr.out
      have HX5 := hx
      clear hx hba hbr hbn
      go_wp2_with (first
        | (refine wpList_load_nd (by rfl) _ (by rfl) _ (by rfl) (trNd gen key v (sumI s0 s1) k0 k1) n5 ?_)
        | (refine wpList_store_box (by rfl) _ _ (by rfl) _ (by rfl) (trNd gen key v (sumI s0 s1) k0 k1) (by rfl) _ HBR rfl ?_; intro wz hbz hoz))
      refine bodyPost_ret (results_nd1 rfl _ _ ⟨w.heap.size + 1, 0, none⟩ (trNd gen key v (sumI s0 s1) k0 k1) (by rfl) hbz.node) rfl ⟨rfl, ?_⟩
      exact hoz.new HX5.out (by omega)

end Go.Proofs.Ytjiehlhnocgneaa
