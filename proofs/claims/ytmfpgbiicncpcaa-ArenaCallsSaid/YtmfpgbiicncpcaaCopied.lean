/-
  Contracts: copied, next, following, New.
-/
import Derived.Test.YtmfpgbiicncpcaaOwnN
set_option linter.unusedVariables false
set_option linter.unusedSimpArgs false
namespace Go.Proofs.Ytmfpgbiicncpcaa
open Go.RowKit

theorem loadAr {w : World} {b : Nat} {cs : Array Value} (h : Bx w b cs) (hc : cs.size = 2) : (loadVar 25 ⟨b, 0, none⟩).run Try.prog w = .ok (.agg cs) w := by
  have hi : (Try.prog.info? 25).map (·.size) = some 2 := by kernel_rfl
  exact run_loadVar_any (P := Try.prog) w ⟨b, 0, none⟩ 25 cs _ (fun j v hv => by rw [addr_zero, h.cell j]; exact hv) Try.underlying25 rfl (by rw [hc]; exact hi)
/-- One result, an arena in a variable. -/
theorem results_ar {fn : Func} {p : Tmp} (h : fn.results = #[.cell p 25]) (tmps : Array Value) (w : World) (b : Nat) (cs : Array Value) (hp : tmps.getD p undef = .pointer (some ⟨b, 0, none⟩)) (hB : Bx w b cs) (hc : cs.size = 2) :
    (results fn tmps).run Try.prog w = .ok (.agg cs) w := by
  have hp' : tmps[p]?.getD undef = .pointer (some ⟨b, 0, none⟩) := by simpa using hp
  simp [results, h, hp', asAddr, loadAr hB hc]
/-- Two, or three results, the first one an arena in a variable. -/
theorem results_ar2 {fn : Func} {p u : Tmp} (h : fn.results = #[.cell p 25, .tmp u]) (tmps : Array Value) (w : World) (b : Nat) (cs : Array Value) (hp : tmps.getD p undef = .pointer (some ⟨b, 0, none⟩)) (hB : Bx w b cs) (hc : cs.size = 2) :
    (results fn tmps).run Try.prog w = .ok (.tuple #[.agg cs, tmps.getD u undef]) w := by
  have hp' : tmps[p]?.getD undef = .pointer (some ⟨b, 0, none⟩) := by simpa using hp
  simp [results, h, hp', asAddr, loadAr hB hc]
theorem results_ar3 {fn : Func} {p u v : Tmp} (h : fn.results = #[.cell p 25, .tmp u, .tmp v]) (tmps : Array Value) (w : World) (b : Nat) (cs : Array Value) (hp : tmps.getD p undef = .pointer (some ⟨b, 0, none⟩)) (hB : Bx w b cs) (hc : cs.size = 2) :
    (results fn tmps).run Try.prog w = .ok (.tuple #[.agg cs, tmps.getD u undef, tmps.getD v undef]) w := by
  have hp' : tmps[p]?.getD undef = .pointer (some ⟨b, 0, none⟩) := by simpa using hp
  simp [results, h, hp', asAddr, loadAr hB hc]
/-- Both cells of an arena's variable written. -/
theorem Bx.two {w : World} {b : Nat} {u v : Value} (h : Bx w b #[u, v]) (x y : Value) : Bx ((w.setCell ⟨b, 0, none⟩ x).setCell ⟨b, 1, none⟩ y) b #[x, y] :=
  ((h.set (j := 0) (by simp) x).set (j := 1) (by simp) y)
theorem Only.two (w : World) (b : Nat) (x y : Value) : Only b w ((w.setCell ⟨b, 0, none⟩ x).setCell ⟨b, 1, none⟩ y) := ((Only.refl b w).set _ _).set _ _

/-- The two blocks of an arena are newer than w. -/
def FrA (w : World) (g : Nat) (B : Option Addr) : Prop := w.heap.size ≤ g ∧ ∀ q, B = some q → w.heap.size ≤ q.block

/-- A new arena: its nodes in block g, its free places in a row of the call's own. -/
structure NewAr (W : World) (base g : Nat) (v : Value) (m : Nat) (ns : List Nd) (fs : List Int) : Prop where
  ge : base ≤ g
  nodes : OwnN W g ns
  free : W.ownsRow base 3 1 v m (Ks .i64 fs)
  apart : v.ownBlock ≠ some g
theorem NewAr.to {W W' : World} {base g : Nat} {v : Value} {m : Nat} {ns : List Nd} {fs : List Int} (h : NewAr W base g v m ns fs) (hx : Ext W W') : NewAr W' base g v m ns fs :=
  ⟨h.ge, h.nodes.to hx, own_ext h.free hx, h.apart⟩
def CopiedA (w : World) (n m : Nat) (ns : List Nd) (fs : List Int) (e : Ending) (w' : World) : Prop :=
  ∃ g c B d, e = .returned (.agg #[.slice (some ⟨g, 0, none⟩) n c, .slice B m d]) ∧ NewAr w' w.heap.size g (.slice B m d) m ns fs ∧ Ext w w'

set_option maxHeartbeats 1600000 in
theorem copied_is (A B : Option Addr) (n m c d : Nat) (ns : List Nd) (fs : List Int) (w : World) (h : Ar w A n B m ns fs) (hn : n ≤ 1000) (h0 : 0 < n) (hm : m ≤ 1000) :
    Calls Try.prog 28 #[.agg #[.slice A n c, .slice B m d]] w (CopiedA w n m ns fs) := by
  obtain ⟨w1, hw1⟩ : ∃ w1, w1 = w.alloc (.cells #[.slice A n c, .slice B m d] 25) := ⟨_, rfl⟩
  obtain ⟨w2, hw2⟩ : ∃ w2, w2 = w1.alloc (.cells #[.slice none 0 0, .slice none 0 0] 25) := ⟨_, rfl⟩
  obtain ⟨B1, hx1, hs1⟩ := box_made hw1
  obtain ⟨B2, hx2, hs2⟩ := box_made hw2
  rw [hs1] at B2
  have X2 := hx1.step hx2
  have h2 := h.to X2
  have HB1 := B1.to hx2
  have k0 : w2.cell? ⟨w.heap.size, 0, none⟩ = some (.slice A n c) := HB1.cell 0
  have k1 : w2.cell? ⟨w.heap.size, 1, none⟩ = some (.slice B m d) := HB1.cell 1
  have H1 := Lib.hid hw1
  have H2 := Lib.hid hw2
  clear hw1 hw2
  go_enter Try.func28, Try.ntmps28
  go_wp2_with fail
  rw [← H1.out, ← H2.out]
  go_region_with (first
    | (go_at_call 44
       refine (clone_nodes A n c ns _ ?_ hn h0).mono ?_
       · refine h2.nodes.to ?_
         repeat (first | exact Ext.refl _ | exact E9 | with_reducible refine Ext.drew ?_)
       rintro e w8 ⟨g, c', rfl, hg8, hO8, hx8⟩
       have E8 : Ext w2 w8 := by
         refine Ext.step ?_ hx8
         repeat (first | exact Ext.refl _ | exact E9 | with_reducible refine Ext.drew ?_)
       have k8a : w8.cell? ⟨w.heap.size, 0, none⟩ = some (.slice A n c) := (HB1.to E8).cell 0
       have k8b : w8.cell? ⟨w.heap.size, 1, none⟩ = some (.slice B m d) := (HB1.to E8).cell 1
       have f8a : w8.cell? ⟨w.heap.size + 1, 0, none⟩ = some (.slice none 0 0) := (B2.to E8).cell 0
       have f8b : w8.cell? ⟨w.heap.size + 1, 1, none⟩ = some (.slice none 0 0) := (B2.to E8).cell 1
       have f8c : w8.frozen? ⟨w.heap.size + 1, 0, none⟩ = false := (B2.to E8).free 0
       have f8d : w8.frozen? ⟨w.heap.size + 1, 1, none⟩ = false := (B2.to E8).free 1)
    | (go_at_call 45
       refine (clone_ints B m d fs _ ?_ hm).mono ?_
       · refine h2.free.to ?_
         repeat (first | exact Ext.refl _ | exact E8 | with_reducible refine Ext.drew ?_)
       rintro e w9 ⟨B', d', rfl, hO9, hx9⟩
       have E9 : Ext w2 w9 := by
         refine Ext.step ?_ hx9
         repeat (first | exact Ext.refl _ | exact E8 | with_reducible refine Ext.drew ?_)
       have k9a : w9.cell? ⟨w.heap.size, 0, none⟩ = some (.slice A n c) := (HB1.to E9).cell 0
       have k9b : w9.cell? ⟨w.heap.size, 1, none⟩ = some (.slice B m d) := (HB1.to E9).cell 1
       have f9a : w9.cell? ⟨w.heap.size + 1, 0, none⟩ = some (.slice none 0 0) := (B2.to E9).cell 0
       have f9b : w9.cell? ⟨w.heap.size + 1, 1, none⟩ = some (.slice none 0 0) := (B2.to E9).cell 1
       have f9c : w9.frozen? ⟨w.heap.size + 1, 0, none⟩ = false := (B2.to E9).free 0
       have f9d : w9.frozen? ⟨w.heap.size + 1, 1, none⟩ = false := (B2.to E9).free 1))
  all_goals go_wp2_with fail
  all_goals
    refine bodyPost_ret (results_ar rfl _ _ (w.heap.size + 1) #[.slice (some ⟨g, 0, none⟩) n c', .slice B' m d'] (by rfl) ((B2.to E9).two _ _) rfl) rfl ?_
    have ho := Only.two w9 (w.heap.size + 1) (.slice (some ⟨g, 0, none⟩) n c') (.slice B' m d')
    have hg2 : w.heap.size + 2 ≤ g := by simp at hg8; omega
    have h89 : w8.heap.size ≤ w9.heap.size := by have := hx9.size; simpa using this
    have hv : ∀ k, (Value.slice B' m d').ownBlock = some k → w8.heap.size ≤ k := fun k hk => by
      have := (hO9.lt k hk).1
      simpa using this
    have hgl := hO8.lt
    have h8s := E8.size
    refine ⟨g, c', B', d', rfl, ⟨by omega, ?_, own_base (own_only hO9 ho (fun e => by have := hv _ e; omega)) (by have := (w8.drew.heap.size); have := E8.size; simp at *; omega), fun e => by have := hv _ e; omega⟩, ho.new (X2.step E9) (by omega)⟩
    refine OwnN.only (hO8.to ?_) ho (by omega)
    exact Ext.step (by repeat (first | exact Ext.refl _ | with_reducible refine Ext.drew ?_)) hx9

end Go.Proofs.Ytmfpgbiicncpcaa
