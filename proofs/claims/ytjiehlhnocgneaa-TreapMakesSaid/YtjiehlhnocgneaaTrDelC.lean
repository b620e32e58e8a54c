/-
  Contract: the closure of Del.
-/
import Derived.Test.YtjiehlhnocgneaaTrPutC
import Derived.Test.YtjiehlhnocgneaaTrJoin
set_option linter.unusedVariables false
set_option linter.unusedSimpArgs false
namespace Go.Proofs.Ytjiehlhnocgneaa
open Go.RowKit

/-- The map in which a key has no value. -/
def GoodD (s : T) (key : Int) (ns' : List Nd) (z : Int) : Prop := ∃ t, Rep ns' t ∧ t.ref = z ∧ t.row = delR s.row key ∧ Hp t
/-- What the closure's variables hold. -/
structure DelV (W : World) (b bg bm : Nat) (gone : Int) : Prop where
  g : Bx W bg #[.int .u64 gone]
  m : Bx W bm #[.pointer (some ⟨b, 0, none⟩)]
  ng : bg ≠ b
  nm : bm ≠ b
theorem DelV.to {W W' : World} {b bg bm : Nat} {gone : Int} (h : DelV W b bg bm gone) (hx : Ext W W') : DelV W' b bg bm gone := ⟨h.g.to hx, h.m.to hx, h.ng, h.nm⟩
theorem DelV.only {W W' : World} {b bg bm : Nat} {gone : Int} (h : DelV W b bg bm gone) (ho : Only b W W') : DelV W' b bg bm gone := ⟨ho.bx h.g h.ng, ho.bx h.m h.nm, h.ng, h.nm⟩
theorem rep_sub {ns : List Nd} {key : Int} : ∀ {t : T}, Rep ns t → Rep ns (t.sub key)
  | .nil, _ => trivial
  | .node r l k v u, h => by
    simp only [T.sub]
    split
    · exact h
    · split
      · exact rep_sub h.2.1
      · exact rep_sub h.2.2

/-- What the closure tells. -/
def DelCP (b : Nat) (ns : List Nd) (fs : List Int) (err : Int) (s q : T) (key : Int) (w : World) (e : Ending) (w' : World) : Prop :=
  (s.ref = q.ref ∧ COut b ns fs err (s.size - 1) (GoodD s key) w e w') ∨ (¬ s.ref = q.ref ∧ e = .returned (.tuple #[.int .u64 0, .bool false]) ∧ Ext w w')

set_option maxHeartbeats 6400000 in
set_option maxRecDepth 100000 in
theorem delC_is (b bg bm : Nat) (key : Int) (q s : T) (ns : List Nd) (fs : List Int) (err : Int) (w : World) (h : Mk w b ns fs err) (hV : DelV w b bg bm q.ref) (hR : Rep ns s) (hS : Srt s.row) (hH : Hp s) (hz : s.size ≤ 200) (hU : U s.ref) (hsub : s.sub key = q) (hq : q ≠ .nil) :
    Calls Try.prog 48 #[.int .u64 s.ref, .agg (nodeF ns s.ref).arr, .pointer (some ⟨bg, 0, none⟩), .pointer (some ⟨bm, 0, none⟩)] w (DelCP b ns fs err s q key w) := by
  cases s with
  | nil => exact absurd hsub.symm hq
  | node r l k v u =>
  obtain ⟨x, hx⟩ := hR.nod
  obtain ⟨A, n, c, B, m, d, hb, ha, hA, hB⟩ := h.box
  have hkids := hR.kids ha.ok
  rw [show (T.node r l k v u).ref = r from rfl] at hU ⊢
  rw [hx.at_]
  obtain ⟨w1, hw1⟩ : ∃ w1, w1 = w.alloc (.cells x.arr 76) := ⟨_, rfl⟩
  obtain ⟨B1, hx1, hs1⟩ := box_made hw1
  have hV1 := hV.to hx1
  have hkey : r = q.ref → k = key := fun e => by
    have hRq := rep_sub (key := key) hR
    rw [hsub] at hRq
    rcases sub_is hS key with ⟨h0, _⟩ | ⟨r', l', v', u', h0, _⟩
    · rw [hsub] at h0; exact absurd h0 hq
    · rw [hsub] at h0
      subst h0
      obtain ⟨y, hy⟩ := hRq.nod
      have e1 := hx.n
      have e2 := hy.n
      have e3 := hx.at_
      have e4 := hy.at_
      rw [e] at e3
      rw [show (T.node r' l' key v' u').ref = r' from rfl] at e3
      rw [e3] at e4
      subst e4
      rw [← e1, e2]
  have HKEY := Lib.hid hkey
  have H1 := Lib.hid hw1
  have X1 := Lib.hid hx1
  have HX := Lib.hid hx
  have HV1 := Lib.hid hV1
  have HS := Lib.hid hS
  have HJ := Lib.hid (fun W (hW : Ext w W) => join_is b 200 l u ns fs err W (by have : l.size + u.size + 1 ≤ 200 := hz; omega) (h.to hW) hR.2.1 hR.2.2 (by have h5 := Srt.mid.1 (show Srt (l.row ++ (k, v) :: u.row) from hS); exact Srt.app.2 ⟨h5.1, h5.2.1, h5.2.2.2.2⟩) hH.2.2.1 hH.2.2.2 (by have : l.size + u.size + 1 ≤ 200 := hz; omega) hkids.1 hkids.2)
  have v0 : w1.cell? ⟨bg, 0, none⟩ = some (.int .u64 q.ref) := hV1.g.cell 0
  have v1 : w1.cell? ⟨bm, 0, none⟩ = some (.pointer (some ⟨b, 0, none⟩)) := hV1.m.cell 0
  have c5 : w1.cell? ⟨w.heap.size, 5, none⟩ = some (.int .u64 l.ref) := by rw [← hx.r0]; exact (B1.cell 5).trans x.a5
  have c6 : w1.cell? ⟨w.heap.size, 6, none⟩ = some (.int .u64 u.ref) := by rw [← hx.r1]; exact (B1.cell 6).trans x.a6
  rw [hw1] at v0 v1 c5 c6
  clear hw1 B1 hx1 hs1 hV hV1 h hR hS hH hz hU hb ha hA hB hkids hkey hsub hq hx
  obtain ⟨g, hgq⟩ : ∃ g, g = q.ref := ⟨_, rfl⟩
  have HGQ := Lib.hid hgq
  rw [← hgq] at HKEY v0
  clear hgq
  by_cases hg : r = g
  · have HE := Lib.hid (HKEY.out hg)
    have HG := Lib.hid hg
    have hg1 : (r != g) = false := by simp [hg]
    clear hg
    go_enter Try.func48, Try.ntmps48
    go_wp2_with fail
    rw [← H1.out]
    refine (HJ.out _ X1.out).mono ?_
    rintro e w3 ⟨ns3, fs3, err3, z3, rfl, hM3, hO3, hG3, hr3, hu3, hg3, he3⟩
    have HF := Lib.hid (show COut b ns fs err ((T.node r l k v u).size - 1) (GoodD (.node r l k v u) key) w (.returned (.tuple #[.int .u64 z3, .bool true])) w3 from by
      refine ⟨ns3, fs3, err3, z3, rfl, hM3, ((Only.refl b w).ext X1.out).trans hO3, hG3.more (by simp only [T.size]; omega), hr3, hu3, fun h => ?_, fun h => ?_⟩
      · obtain ⟨h1, s, q1, q2, q3, q4⟩ := hg3 h
        refine ⟨h1, s, q1, q2, ?_, q4⟩
        have hE := HE.out
        subst hE
        rw [q3]
        exact (del_here HS.out).symm
      · rcases he3 h with h1 | h1
        · exact .inl h1
        · exact .inr (by simp only [T.size]; omega))
    clear hM3 hO3 hG3 hr3 hu3 hg3 he3
    go_wp2_with fail
    go_ret2
    exact .inl ⟨HG.out.trans HGQ.out, HF.out⟩
  · have HG := Lib.hid hg
    have hg1 : (r != g) = true := by simp [hg]
    clear hg
    go_enter Try.func48, Try.ntmps48
    go_wp2_with fail
    rw [← H1.out]
    go_ret2
    exact .inr ⟨fun e => HG.out (e.trans HGQ.out.symm), rfl, X1.out⟩
end Go.Proofs.Ytjiehlhnocgneaa
