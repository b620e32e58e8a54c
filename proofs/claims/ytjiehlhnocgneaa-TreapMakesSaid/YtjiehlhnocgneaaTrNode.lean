/-
  Contracts: a reference's node, a map's size, a node's side (nodeOf, sizeOf, sideOf).
-/
import Derived.Test.YtjiehlhnocgneaaTrMath
import Derived.Test.YtjiehlhnocgneaaGC
set_option linter.unusedVariables false
set_option linter.unusedSimpArgs false
namespace Go.Proofs.Ytjiehlhnocgneaa
open Go.RowKit

/-- A reference's node; one of nothing, if it has none. -/
def nodeF (ns : List Nd) (r : Int) : Nd := match gotF ns r with | some (_, x) => x | none => bare 0
theorem nodeF_got {ns : List Nd} {r : Int} {p : Nat} {x : Nd} (h : Got ns r p x) : nodeF ns r = x := by unfold nodeF; rw [gotF_some.2 h]
theorem nodeF_gone {ns : List Nd} {r : Int} (h : Gone ns r) : nodeF ns r = bare 0 := by unfold nodeF; rw [gotF_none.2 h]
theorem nodeF_zero (ns : List Nd) : nodeF ns 0 = bare 0 := nodeF_gone (fun p x h => got_nz h rfl)
theorem got_or (ns : List Nd) (r : Int) : (∃ p x, Got ns r p x) ∨ Gone ns r := by
  cases h : gotF ns r with
  | none => exact .inr (gotF_none.1 h)
  | some px => exact .inl ⟨px.1, px.2, gotF_some.1 h⟩
theorem nodeF_ok {ns : List Nd} (hok : ∀ x ∈ ns, x.Ok) (r : Int) : (nodeF ns r).Ok := by
  rcases got_or ns r with ⟨p, x, h⟩ | h
  · rw [nodeF_got h]; exact hok x (List.mem_of_getElem? h.at_)
  · rw [nodeF_gone h]; intro z hz; simp [bare, Nd.kids] at hz; subst hz; omega

/-- One result, a node in a variable. -/
theorem results_nd1 {fn : Func} {p : Tmp} (h : fn.results = #[.cell p 76]) (tmps : Array Value) (w : World) (A : Addr) (x : Nd) (hp : tmps.getD p undef = .pointer (some A)) (hn : NdAt w A x) :
    (results fn tmps).run Try.prog w = .ok (.agg x.arr) w := by
  have hl := run_loadVar_any (P := Try.prog) w A 76 x.arr _ (fun j v hv => hn j v (by rw [← Nd.arr_get]; exact hv)) Try.underlying76 rfl (by kernel_rfl)
  have hp' : tmps[p]?.getD undef = .pointer (some A) := by simpa using hp
  simp [results, h, hp', asAddr, hl]

theorem get_any (A B : Option Addr) (n c m d : Nat) (ns : List Nd) (r : Int) (w : World) (h0 : 0 ≤ r) (h1 : r ≤ 18446744073709551615) (h : Rd w 16 A n (flat Nd.cells ns)) :
    ∃ k : Int, Calls Try.prog 80 #[.agg #[.slice A n c, .slice B m d], .int .u64 r] w fun e w' => e = .returned (.tuple #[.agg (nodeF ns r).arr, .int .i64 k]) ∧ Ext w w' := by
  rcases got_or ns r with ⟨p, x, hg⟩ | hg
  · rw [nodeF_got hg]; exact ⟨0, get_yes A n c m d B ns r p x w h0 h1 h hg⟩
  · rw [nodeF_gone hg]; exact ⟨4, get_no A n c m d B ns r w h0 h1 h hg⟩

set_option maxHeartbeats 1000000 in
theorem nodeOf_is (A B : Option Addr) (n c m d : Nat) (ns : List Nd) (r : Int) (w : World) (h0 : 0 ≤ r) (h1 : r ≤ 18446744073709551615) (h : Rd w 16 A n (flat Nd.cells ns)) :
    Calls Try.prog 64 #[.agg #[.slice A n c, .slice B m d], .int .u64 r] w fun e w' => e = .returned (.agg (nodeF ns r).arr) ∧ Ext w w' := by
  obtain ⟨w1, hw1⟩ : ∃ w1, w1 = w.alloc (.cells #[.slice A n c, .slice B m d] 25) := ⟨_, rfl⟩
  obtain ⟨w2, hw2⟩ : ∃ w2, w2 = w1.alloc (.cells #[.int .i64 0, .int .i64 0, .int .i64 0, .int .i64 0, .int .i64 0, .int .u64 0, .int .u64 0, .int .u64 0, .int .u64 0, .int .u64 0, .int .u64 0, .int .u64 0, .int .u64 0, .int .u64 0, .int .i64 0, .int .i64 0] 76) := ⟨_, rfl⟩
  obtain ⟨B1, hx1, hs1⟩ := box_made hw1
  obtain ⟨B2, hx2, hs2⟩ := box_made hw2
  rw [hs1] at B2
  obtain ⟨k, hget⟩ := get_any A B n c m d ns r w2 h0 h1 (h.to (hx1.step hx2))
  generalize nodeF ns r = x at hget ⊢
  have HG := Lib.hid hget
  have k0 : w2.cell? ⟨w.heap.size, 0, none⟩ = some (.slice A n c) := (B1.to hx2).cell 0
  have k1 : w2.cell? ⟨w.heap.size, 1, none⟩ = some (.slice B m d) := (B1.to hx2).cell 1
  have H1 := Lib.hid hw1
  have H2 := Lib.hid hw2
  have X2 := Lib.hid (hx1.step hx2)
  have HB := Lib.hid B2
  clear hw1 hw2 B1 B2 hx1 hx2 hs1 hs2 h hget
  go_enter Try.func64, Try.ntmps64
  go_wp2_with fail
  rw [← H1.out, ← H2.out]
  go_wp2_with fail
  refine HG.out.mono ?_; rintro e w3 ⟨rfl, hx3⟩
  obtain ⟨w4, hw4⟩ : ∃ w4, w4 = w3.alloc (.cells x.arr 76) := ⟨_, rfl⟩
  obtain ⟨B4, hx4, hs4⟩ := box_made hw4
  have H4 := Lib.hid hw4
  have n4 := B4.node
  have b4 := HB.out.to (hx3.step hx4)
  have X4 := Lib.hid (X2.out.step (hx3.step hx4))
  clear hw4 hs4 hx3 hx4 B4 k0 k1
  go_wp2_with (first
    | (refine wpList_store_nd (W := w3) (by rfl) _ _ (by rfl) (by rfl) x (by rfl) _ (by rfl) (by rfl) ?_; rw [← H4.out])
    | (refine wpList_load_nd (by rfl) _ (by rfl) _ (by rfl) x n4 ?_)
    | (refine wpList_store_box (by rfl) _ _ (by rfl) _ (by rfl) x (by rfl) _ b4 rfl ?_; intro wz hbz hoz))
  refine bodyPost_ret (results_nd1 rfl _ _ ⟨w.heap.size + 1, 0, none⟩ x (by rfl) hbz.node) rfl ⟨rfl, ?_⟩
  exact hoz.new X4.out (by omega)

/-- A number of a node by value. -/
theorem nd_s (x : Nd) (W : World) : (Instr.field 76 (.agg x.arr) 4).run Try.prog W = .ok (.int .i64 x.s) W := by
  simp only [Instr.field, Sem.run_bind, run_underlying Try.underlying76, Result.andThen_ok]
  exact part_i64 (t := 2) Try.underlying2 x 4 _ x.a4
theorem nd_v (x : Nd) (W : World) : (Instr.field 76 (.agg x.arr) 3).run Try.prog W = .ok (.int .i64 x.v) W := by
  simp only [Instr.field, Sem.run_bind, run_underlying Try.underlying76, Result.andThen_ok]
  exact part_i64 (t := 2) Try.underlying2 x 3 _ x.a3
theorem nd_n (x : Nd) (W : World) : (Instr.field 76 (.agg x.arr) 2).run Try.prog W = .ok (.int .i64 x.n) W := by
  simp only [Instr.field, Sem.run_bind, run_underlying Try.underlying76, Result.andThen_ok]
  exact part_i64 (t := 2) Try.underlying2 x 2 _ x.a2

set_option maxHeartbeats 1000000 in
theorem sizeOf_is (A B : Option Addr) (n c m d : Nat) (ns : List Nd) (r : Int) (w : World) (h0 : 0 ≤ r) (h1 : r ≤ 18446744073709551615) (h : Rd w 16 A n (flat Nd.cells ns)) :
    Calls Try.prog 39 #[.agg #[.slice A n c, .slice B m d], .int .u64 r] w fun e w' => e = .returned (.int .i64 (nodeF ns r).s) ∧ Ext w w' := by
  have HN := Lib.hid (nodeOf_is A B n c m d ns r (w.alloc (.cells #[.slice A n c, .slice B m d] 25)) h0 h1 (h.to ((Ext.refl w).new _)))
  generalize nodeF ns r = x at HN ⊢
  have hfs := nd_s x
  clear h
  go_enter Try.func39, Try.ntmps39
  go_wp2_with fail
  refine HN.out.mono ?_; rintro e w3 ⟨rfl, hx3⟩
  go_wp2_with fail
  go_ret
  exact ⟨rfl, ((Ext.refl w).new _).step hx3⟩

theorem sideOf_is (x : Nd) (k : Int) (w : World) :
    Calls Try.prog 66 #[.agg x.arr, .int .i64 k] w fun e w' => e = .returned (.int .i64 (if k < x.n then 0 else 1)) ∧ Ext w w' := by
  have hx1 := Lib.hid ((Ext.refl w).new (.cells x.arr 76))
  have c2 : (w.alloc (.cells x.arr 76)).cell? ⟨w.heap.size, 2, none⟩ = some (.int .i64 x.n) := ((Bx.new w x.arr 76).cell 2).trans x.a2
  obtain ⟨nn, hnn⟩ : ∃ nn, nn = x.n := ⟨_, rfl⟩
  rw [← hnn] at c2 ⊢
  clear hnn
  by_cases h : k < nn
  · have e : (if k < nn then (0 : Int) else 1) = 0 := if_pos h
    rw [e]
    clear e
    go_enter Try.func66, Try.ntmps66
    go_wp2_with fail
    go_ret
    exact ⟨rfl, hx1.out⟩
  · have e : (if k < nn then (0 : Int) else 1) = 1 := if_neg h
    rw [e]
    clear e
    go_enter Try.func66, Try.ntmps66
    go_wp2_with fail
    go_ret
    exact ⟨rfl, hx1.out⟩

end Go.Proofs.Ytjiehlhnocgneaa
