/-
  Contracts of package order: a reference's node, a map's size, a node's key with its value.
-/
import Derived.Test.YtjiehlhnocgneaaOrMath
import Derived.Test.YtjiehlhnocgneaaTrMeetM
import Derived.Test.YtjiehlhnocgneaaRfRow
import Derived.Test.YtjiehlhnocgneaaStores
set_option linter.unusedVariables false
set_option linter.unusedSimpArgs false
namespace Go.Proofs.Ytjiehlhnocgneaa
open Go.RowKit

set_option maxHeartbeats 1000000 in
theorem orNode_is (A B : Option Addr) (n c m d : Nat) (ns : List Nd) (r : Int) (w : World) (h0 : 0 ≤ r) (h1 : r ≤ 18446744073709551615) (h : Rd w 16 A n (flat Nd.cells ns)) :
    Calls Try.prog 79 #[.agg #[.slice A n c, .slice B m d], .int .u64 r] w fun e w' => e = .returned (.agg (nodeF ns r).arr) ∧ Ext w w' := by
  obtain ⟨w1, hw1⟩ : ∃ w1, w1 = w.alloc (.cells #[.slice A n c, .slice B m d] 25) := ⟨_, rfl⟩
  obtain ⟨w2, hw2⟩ : ∃ w2, w2 = w1.alloc (.cells #[.int .i64 0, .int .i64 0, .int .i64 0, .int .i64 0, .int .i64 0, .int .u64 0, .int .u64 0, .int .u64 0, .int .u64 0, .int .u64 0, .int .u64 0, .int .u64 0, .int .u64 0, .int .u64 0, .int .i64 0, .int .i64 0] 76) := ⟨_, rfl⟩
  obtain ⟨B1, hx1, hs1⟩ := box_made hw1
  obtain ⟨B2, hx2, hs2⟩ := box_made hw2
  rw [hs1] at B2
  obtain ⟨k, hget⟩ := get_any A B n c m d ns r w2 h0 h1 (h.to (hx1.step hx2))
  generalize nodeF ns r = x at hget ⊢
  have HG := Lib.hid hget
  have k0 : w2.cell? ⟨w.heap.size, 0, none⟩ = some (.slice A n c) := (B1.to hx2).cell 0
  have k1 : w2.cell? ⟨w.heap.size, 1, none⟩ = some (.slice B m d) := (B1.to hx2).cell 1
  have H1 := Lib.hid hw1
  have H2 := Lib.hid hw2
  have X2 := Lib.hid (hx1.step hx2)
  have HB := Lib.hid B2
  clear hw1 hw2 B1 B2 hx1 hx2 hs1 hs2 h hget
  go_enter Try.func79, Try.ntmps79
  go_wp2_with fail
  rw [← H1.out, ← H2.out]
  go_wp2_with fail
  refine HG.out.mono ?_; rintro e w3 ⟨rfl, hx3⟩
  obtain ⟨w4, hw4⟩ : ∃ w4, w4 = w3.alloc (.cells x.arr 76) := ⟨_, rfl⟩
  obtain ⟨B4, hx4, hs4⟩ := box_made hw4
  have H4 := Lib.hid hw4
  have n4 := B4.node
  have b4 := HB.out.to (hx3.step hx4)
  have X4 := Lib.hid (X2.out.step (hx3.step hx4))
  clear hw4 hs4 hx3 hx4 B4 k0 k1
  go_wp2_with (first
    | (refine wpList_store_nd (W := w3) (by rfl) _ _ (by rfl) (by rfl) x (by rfl) _ (by rfl) (by rfl) ?_; rw [← H4.out])
    | (refine wpList_load_nd (by rfl) _ (by rfl) _ (by rfl) x n4 ?_)
    | (refine wpList_store_box (by rfl) _ _ (by rfl) _ (by rfl) x (by rfl) _ b4 rfl ?_; intro wz hbz hoz))
  refine bodyPost_ret (results_nd1 rfl _ _ ⟨w.heap.size + 1, 0, none⟩ x (by rfl) hbz.node) rfl ⟨rfl, ?_⟩
  exact hoz.new X4.out (by omega)

set_option maxHeartbeats 1000000 in
theorem orSize_is (A B : Option Addr) (n c m d : Nat) (ns : List Nd) (r : Int) (w : World) (h0 : 0 ≤ r) (h1 : r ≤ 18446744073709551615) (h : Rd w 16 A n (flat Nd.cells ns)) :
    Calls Try.prog 57 #[.agg #[.slice A n c, .slice B m d], .int .u64 r] w fun e w' => e = .returned (.int .i64 (nodeF ns r).s) ∧ Ext w w' := by
  have HN := Lib.hid (orNode_is A B n c m d ns r (w.alloc (.cells #[.slice A n c, .slice B m d] 25)) h0 h1 (h.to ((Ext.refl w).new _)))
  generalize nodeF ns r = x at HN ⊢
  have hfs := nd_s x
  clear h
  go_enter Try.func57, Try.ntmps57
  go_wp2_with fail
  refine HN.out.mono ?_; rintro e w3 ⟨rfl, hx3⟩
  go_wp2_with fail
  go_ret
  exact ⟨rfl, ((Ext.refl w).new _).step hx3⟩


/-- THE OPERATION: a struct goes into a block of the call's own that is known whole. -/
theorem wpList_store_agg {P : Program} {ops : Array Oper} {rest : List Oper} {o : Oper} {a : Act} {w : World} {Q : Exit → Act → World → Prop} (hgd : Region.wanted o (yielded ops a.tmps) = true) (ty : TypeId) (x y : Operand) (ho : o.op = .store ty x y)
    (b : Nat) (hx : a.eval x = .pointer (some ⟨b, 0, none⟩)) (vs : Array Value) (hy : a.eval y = .agg vs) (h1 : vs.all (·.oneCell') = true) (hi : (P.info? ty).map (·.size) = some vs.size) (cs : Array Value) (hB : Bx w b cs) (hc : cs.size = vs.size)
    (h : ∀ W, Bx W b vs → Only b w W → wpList P ops Q rest (a.put o.dst undef) W) : wpList P ops Q (o :: rest) a w := by
  have ht : w.there b 0 vs.size := fun j hj => by
    rw [Nat.zero_add]
    refine ⟨?_, hB.free j⟩
    rw [hB.cell j, Array.getElem?_eq_getElem (by omega)]; rfl
  exact Go.BigFrame.wpList_want hgd fun K hK => by
    unfold Oper.wp execOp
    simp only [ho, hx, hy, Sem.run_bind, run_storeAt_mid (P := P) w b 0 ty vs ht hi h1, Sem.run_pure, Result.andThen_ok]
    exact hK _ _ (h _ (hB.stored hc) (setCells_only b _ 0 w w (Only.refl b w)))
theorem loadIt {w : World} {b : Nat} {cs : Array Value} (h : Bx w b cs) (hc : cs.size = 2) : (loadVar 60 ⟨b, 0, none⟩).run Try.prog w = .ok (.agg cs) w := by
  have hi : (Try.prog.info? 60).map (·.size) = some 2 := by kernel_rfl
  exact run_loadVar_any (P := Try.prog) w ⟨b, 0, none⟩ 60 cs _ (fun j v hv => by rw [addr_zero, h.cell j]; exact hv) Try.underlying60 rfl (by rw [hc]; exact hi)
theorem results_it2 {fn : Func} {p u : Tmp} (h : fn.results = #[.cell p 60, .tmp u]) (tmps : Array Value) (w : World) (b : Nat) (cs : Array Value) (hp : tmps.getD p undef = .pointer (some ⟨b, 0, none⟩)) (hB : Bx w b cs) (hc : cs.size = 2) :
    (results fn tmps).run Try.prog w = .ok (.tuple #[.agg cs, tmps.getD u undef]) w := by
  have hp' : tmps[p]?.getD undef = .pointer (some ⟨b, 0, none⟩) := by simpa using hp
  simp [results, h, hp', asAddr, loadIt hB hc]
theorem loadBd {w : World} {b : Nat} {cs : Array Value} (h : Bx w b cs) (hc : cs.size = 3) : (loadVar 97 ⟨b, 0, none⟩).run Try.prog w = .ok (.agg cs) w := by
  have hi : (Try.prog.info? 97).map (·.size) = some 3 := by kernel_rfl
  exact run_loadVar_any (P := Try.prog) w ⟨b, 0, none⟩ 97 cs _ (fun j v hv => by rw [addr_zero, h.cell j]; exact hv) Try.underlying97 rfl (by rw [hc]; exact hi)
theorem results_bd1 {fn : Func} {p : Tmp} (h : fn.results = #[.cell p 97]) (tmps : Array Value) (w : World) (b : Nat) (cs : Array Value) (hp : tmps.getD p undef = .pointer (some ⟨b, 0, none⟩)) (hB : Bx w b cs) (hc : cs.size = 3) :
    (results fn tmps).run Try.prog w = .ok (.agg cs) w := by
  have hp' : tmps[p]?.getD undef = .pointer (some ⟨b, 0, none⟩) := by simpa using hp
  simp [results, h, hp', asAddr, loadBd hB hc]

/-- A key with its value as it is answered, or that there is none. -/
def itV : Option (Int × Int) → Array Value
  | none => #[.agg #[.int .i64 0, .int .i64 0], .int .i64 3]
  | some x => #[.agg #[.int .i64 x.1, .int .i64 x.2], .int .i64 0]
def ItemA (o : Option (Int × Int)) (w : World) (e : Ending) (w' : World) : Prop := e = .returned (.tuple (itV o)) ∧ Ext w w'

set_option maxHeartbeats 1000000 in
theorem itemOf_none (A B : Option Addr) (n c m d : Nat) (w : World) :
    Calls Try.prog 60 #[.agg #[.slice A n c, .slice B m d], .int .u64 0] w (ItemA none w) := by
  obtain ⟨w1, hw1⟩ : ∃ w1, w1 = w.alloc (.cells #[.slice A n c, .slice B m d] 25) := ⟨_, rfl⟩
  obtain ⟨w2, hw2⟩ : ∃ w2, w2 = w1.alloc (.cells #[.int .i64 0, .int .i64 0] 60) := ⟨_, rfl⟩
  obtain ⟨B1, hx1, hs1⟩ := box_made hw1
  obtain ⟨B2, hx2, hs2⟩ := box_made hw2
  rw [hs1] at B2
  have H1 := Lib.hid hw1
  have H2 := Lib.hid hw2
  have HB2 := Lib.hid B2
  have X2 := Lib.hid (hx1.step hx2)
  clear hw1 hw2 B1 B2 hx1 hx2 hs1 hs2
  go_enter Try.func60, Try.ntmps60
  go_wp2_with fail
  rw [← H1.out, ← H2.out]
  exact bodyPost_ret (results_it2 rfl _ _ (w.heap.size + 1) #[.int .i64 0, .int .i64 0] (by rfl) HB2.out rfl) rfl ⟨rfl, X2.out⟩

set_option maxHeartbeats 1000000 in
theorem itemOf_some (A B : Option Addr) (n c m d : Nat) (ns : List Nd) (z : Int) (a : Int × Int) (w : World) (hz : z ≠ 0) (hU : U z) (hk : (nodeF ns z).n = a.1) (hv : (nodeF ns z).v = a.2) (h : Rd w 16 A n (flat Nd.cells ns)) :
    Calls Try.prog 60 #[.agg #[.slice A n c, .slice B m d], .int .u64 z] w (ItemA (some a) w) := by
  obtain ⟨w1, hw1⟩ : ∃ w1, w1 = w.alloc (.cells #[.slice A n c, .slice B m d] 25) := ⟨_, rfl⟩
  obtain ⟨w2, hw2⟩ : ∃ w2, w2 = w1.alloc (.cells #[.int .i64 0, .int .i64 0] 60) := ⟨_, rfl⟩
  obtain ⟨B1, hx1, hs1⟩ := box_made hw1
  obtain ⟨B2, hx2, hs2⟩ := box_made hw2
  rw [hs1] at B2
  have HN := Lib.hid (orNode_is A B n c m d ns z w2 hU.1 hU.2 (h.to (hx1.step hx2)))
  have k0 : w2.cell? ⟨w.heap.size, 0, none⟩ = some (.slice A n c) := (B1.to hx2).cell 0
  have k1 : w2.cell? ⟨w.heap.size, 1, none⟩ = some (.slice B m d) := (B1.to hx2).cell 1
  have H1 := Lib.hid hw1
  have H2 := Lib.hid hw2
  have HB2 := Lib.hid B2
  have X2 := Lib.hid (hx1.step hx2)
  have hz0 : (z == 0) = false := by simp [hz]
  obtain ⟨x, hx⟩ : ∃ x, x = nodeF ns z := ⟨_, rfl⟩
  rw [← hx] at HN hk hv
  obtain ⟨a1, a2⟩ := a
  simp only at hk hv
  have HK := Lib.hid hk
  have HV := Lib.hid hv
  clear hw1 hw2 B1 B2 hx1 hx2 hs1 hs2 h hk hv hx hz
  go_enter Try.func60, Try.ntmps60
  go_wp2_with fail
  rw [← H1.out, ← H2.out]
  go_wp2_with fail
  refine HN.out.mono ?_; rintro e w3 ⟨rfl, hx3⟩
  obtain ⟨w4, hw4⟩ : ∃ w4, w4 = w3.alloc (.cells x.arr 76) := ⟨_, rfl⟩
  obtain ⟨B4, hx4, hs4⟩ := box_made hw4
  have H4 := Lib.hid hw4
  have b4 := HB2.out.to (hx3.step hx4)
  have X4 := Lib.hid (X2.out.step (hx3.step hx4))
  have c2 : w4.cell? ⟨w3.heap.size, 2, none⟩ = some (.int .i64 a1) := by rw [← HK.out]; exact (B4.cell 2).trans x.a2
  have c3 : w4.cell? ⟨w3.heap.size, 3, none⟩ = some (.int .i64 a2) := by rw [← HV.out]; exact (B4.cell 3).trans x.a3
  have f0 := b4.free 0
  have f1 := b4.free 1
  have g0 := b4.cell 0
  have g1 := b4.cell 1
  simp only [List.getElem?_toArray, List.getElem?_cons_zero, List.getElem?_cons_succ] at g0 g1
  have HB4 := Lib.hid b4
  clear hw4 hs4 hx3 hx4 B4 k0 k1 b4
  go_wp2_with (first
    | (refine wpList_store_nd (W := w3) (by rfl) _ _ (by rfl) (by rfl) x (by rfl) _ (by rfl) (by rfl) ?_; rw [← H4.out]))
  exact bodyPost_ret (results_it2 rfl _ _ (w.heap.size + 1) #[.int .i64 a1, .int .i64 a2] (by rfl) (HB4.out.two _ _) rfl) rfl ⟨rfl, (Only.two _ _ _ _).new X4.out (by omega)⟩

end Go.Proofs.Ytjiehlhnocgneaa
