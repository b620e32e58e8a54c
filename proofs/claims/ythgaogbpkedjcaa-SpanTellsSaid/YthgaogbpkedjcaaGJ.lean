/-
  Texts in one: TrErr TrJoin TrDelC TrCopyD TrDel TrSpl TrJoi TrGet TrAlive.
-/
import Derived.Test.YthgaogbpkedjcaaTrPut
import Derived.Test.YthgaogbpkedjcaaTrSplit
import Derived.Test.YthgaogbpkedjcaaGG
import Derived.Test.YthgaogbpkedjcaaTrPutC
import Derived.Test.YthgaogbpkedjcaaTrRight

/-
  Contracts: Del, Split and Join of package treap refuse what may not be.
-/
set_option linter.unusedVariables false
set_option linter.unusedSimpArgs false
namespace Go.Proofs.Ythgaogbpkedjcaa
open Go.RowKit

theorem results_ar4 {fn : Func} {p u v x : Tmp} (h : fn.results = #[.cell p 25, .tmp u, .tmp v, .tmp x]) (tmps : Array Value) (w : World) (b : Nat) (cs : Array Value) (hp : tmps.getD p undef = .pointer (some ⟨b, 0, none⟩)) (hB : Bx w b cs) (hc : cs.size = 2) :
    (results fn tmps).run Try.prog w = .ok (.tuple #[.agg cs, tmps.getD u undef, tmps.getD v undef, tmps.getD x undef]) w := by
  have hp' : tmps[p]?.getD undef = .pointer (some ⟨b, 0, none⟩) := by simpa using hp
  simp [results, h, hp', asAddr, loadAr hB hc]

/-- What Split does, where it fails. -/
def ErrS (k : Int) (w : World) (e : Ending) (w' : World) : Prop := e = .returned (.tuple #[.agg #[.slice none 0 0, .slice none 0 0], .int .u64 0, .int .u64 0, .int .i64 k]) ∧ Ext w w'

end Go.Proofs.Ythgaogbpkedjcaa

/-
  Contract: the map of the keys of two (join of a maker).
-/
set_option linter.unusedVariables false
set_option linter.unusedSimpArgs false
namespace Go.Proofs.Ythgaogbpkedjcaa
open Go.RowKit

theorem held_one2 {P : Program} {ops : Array Oper} {S : World → Prop} {Q : Exit → Act → World → Prop} {md : Region.Mode} {i : Nat} {o : Oper} {fuel : Nat} {li : Array Bool} {a : Act} {w : World} (hr : Region.ready md ops li = [i]) (ho : ops[i]? = some o) (hw : Region.wanted o (yielded ops a.tmps) = true)
    (h : Oper.wp P o a w (fun a' w' => S w' ∧ wpAnyH P md ops Q S fuel (li.setIfInBounds i true) a' w') Q) : wpAnyH P md ops Q S (fuel + 1) li a w := by
  refine wpAnyH_all hr (by simp) (fun j hj => ?_)
  obtain rfl : j = i := by simpa using hj
  exact wpOp_of_wp ho hw h
theorem wp_store_nd {o : Oper} {a : Act} {w : World} {K : Act → World → Prop} {Q : Exit → Act → World → Prop} (x y : Operand) (ho : o.op = .store 66 x y)
    (b : Nat) (hx : a.eval x = .pointer (some ⟨b, 0, none⟩)) (z : Nd) (hy : a.eval y = .agg z.arr) (cs : Array Value) (hB : Bx w b cs) (hc : cs.size = 16)
    (h : ∀ W, Bx W b z.arr → Only b w W → K (a.put o.dst undef) W) : Oper.wp Try.prog o a w K Q := by
  have ht : w.there b 0 z.arr.size := fun j hj => by
    rw [Nat.zero_add]
    rw [Nd.arr_size] at hj
    refine ⟨?_, hB.free j⟩
    rw [hB.cell j, Array.getElem?_eq_getElem (by omega)]; rfl
  unfold Oper.wp execOp
  simp only [ho, hx, hy, Sem.run_bind, run_storeAt_mid (P := Try.prog) w b 0 66 z.arr ht (by rw [Nd.arr_size]; kernel_rfl) (by rw [Array.all_eq_true']; exact fun v hv => z.cells_one v (by rw [← Nd.arr_list]; exact hv.val)), Sem.run_pure, Result.andThen_ok]
  exact h _ (hB.stored (by rw [hc]; rfl)) (setCells_only b _ 0 w w (Only.refl b w))

/-- The tree of two rows. -/
def GoodJ (l : Row) (ns' : List Nd) (z : Int) : Prop := ∃ s, Rep ns' s ∧ s.ref = z ∧ s.row = l ∧ Hp s

theorem goodJ_left {ns' ns'' : List Nd} {r : Int} {l u1 u : T} {k v : Int} {z5 z : Int} (hS : Srt ((T.node r l k v u1).row ++ u.row)) (hh : Hp (.node r l k v u1)) (hu : ∀ x ∈ u.row, Bef k x.1) (hz : u1.size + u.size ≤ 200) (hg : GoodJ (u1.row ++ u.row) ns' z5) (hK : Kid1 ns' z5 l k v u1 ns'' z) : GoodJ ((T.node r l k v u1).row ++ u.row) ns'' z := by
  obtain ⟨s, q1, q2, q3, q4⟩ := hg
  have hsz : s.size ≤ 400 := by
    rw [← T.row_length, q3, List.length_append, T.row_length, T.row_length]; omega
  refine ⟨.node z l k v s, hK s q1 q2 hsz, rfl, by simp [T.row, q3], ⟨hh.1, fun x hx => ?_, hh.2.2.1, q4⟩⟩
  rw [q3] at hx
  rcases List.mem_append.1 hx with hx | hx
  · exact hh.2.1 x hx
  · exact hu x hx
theorem goodJ_right {ns' ns'' : List Nd} {r : Int} {t l u1 : T} {k v : Int} {z5 z : Int} (hh : Hp (.node r l k v u1)) (hu : ∀ x ∈ t.row, Bef k x.1) (hz : t.size + l.size ≤ 200) (hg : GoodJ (t.row ++ l.row) ns' z5) (hK : Kid0 ns' z5 l k v u1 ns'' z) : GoodJ (t.row ++ (T.node r l k v u1).row) ns'' z := by
  obtain ⟨s, q1, q2, q3, q4⟩ := hg
  have hsz : s.size ≤ 400 := by
    rw [← T.row_length, q3, List.length_append, T.row_length, T.row_length]; omega
  refine ⟨.node z s k v u1, hK s q1 q2 hsz, rfl, by simp [T.row, q3], ⟨fun x hx => ?_, hh.2.1, q4, hh.2.2.2⟩⟩
  rw [q3] at hx
  rcases List.mem_append.1 hx with hx | hx
  · exact hu x hx
  · exact hh.1 x hx

end Go.Proofs.Ythgaogbpkedjcaa

/-
  Contract: the closure of Del.
-/
set_option linter.unusedVariables false
set_option linter.unusedSimpArgs false
namespace Go.Proofs.Ythgaogbpkedjcaa
open Go.RowKit

/-- The map in which a key has no value. -/
def GoodD (s : T) (key : Int) (ns' : List Nd) (z : Int) : Prop := ∃ t, Rep ns' t ∧ t.ref = z ∧ t.row = delR s.row key ∧ Hp t
/-- What the closure's variables hold. -/
structure DelV (W : World) (b bg bm : Nat) (gone : Int) : Prop where
  g : Bx W bg #[.int .u64 gone]
  m : Bx W bm #[.pointer (some ⟨b, 0, none⟩)]
  ng : bg ≠ b
  nm : bm ≠ b
theorem DelV.to {W W' : World} {b bg bm : Nat} {gone : Int} (h : DelV W b bg bm gone) (hx : Ext W W') : DelV W' b bg bm gone := ⟨h.g.to hx, h.m.to hx, h.ng, h.nm⟩
theorem DelV.only {W W' : World} {b bg bm : Nat} {gone : Int} (h : DelV W b bg bm gone) (ho : Only b W W') : DelV W' b bg bm gone := ⟨ho.bx h.g h.ng, ho.bx h.m h.nm, h.ng, h.nm⟩
theorem rep_sub {ns : List Nd} {key : Int} : ∀ {t : T}, Rep ns t → Rep ns (t.sub key)
  | .nil, _ => trivial
  | .node r l k v u, h => by
    simp only [T.sub]
    split
    · exact h
    · split
      · exact rep_sub h.2.1
      · exact rep_sub h.2.2

/-- What the closure tells. -/
def DelCP (b : Nat) (ns : List Nd) (fs : List Int) (err : Int) (s q : T) (key : Int) (w : World) (e : Ending) (w' : World) : Prop :=
  (s.ref = q.ref ∧ COut b ns fs err (s.size - 1) (GoodD s key) w e w') ∨ (¬ s.ref = q.ref ∧ e = .returned (.tuple #[.int .u64 0, .bool false]) ∧ Ext w w')

end Go.Proofs.Ythgaogbpkedjcaa

/-
  Contract: a map whose path towards a key is made anew, with Del's closure (copied).
-/
set_option linter.unusedVariables false
set_option linter.unusedSimpArgs false
namespace Go.Proofs.Ythgaogbpkedjcaa
open Go.RowKit

theorem sub_pos {t q : T} {key : Int} (h : t.sub key = q) (hq : q ≠ .nil) : 1 ≤ t.size := by
  cases t with
  | nil => exact absurd h (fun e => hq (by rw [← e]; rfl))
  | node r l k v u => simp only [T.size]; omega

theorem goodD_left {ns' ns'' : List Nd} {r : Int} {l : T} {k v' : Int} {u : T} {key z' z : Int} (hS : Srt (T.node r l k v' u).row) (hH : Hp (.node r l k v' u)) (hz : l.size + u.size ≤ 200) (hk : key < k) (hg : GoodD l key ns' z') (hK : Kid0 ns' z' l k v' u ns'' z) : GoodD (.node r l k v' u) key ns'' z := by
  obtain ⟨t, h1, h2, h3, h4⟩ := hg
  refine ⟨.node z t k v' u, hK t h1 h2 ?_, rfl, ?_, ⟨fun x hx => hH.1 x (mem_delR (h3 ▸ hx)), hH.2.1, h4, hH.2.2.2⟩⟩
  · rw [← T.row_length, h3]
    have : (delR l.row key).length ≤ l.row.length := List.length_filter_le _ _
    rw [T.row_length] at this
    omega
  · simp only [T.row]
    rw [del_left hS hk, h3]
theorem goodD_right {ns' ns'' : List Nd} {r : Int} {l : T} {k v' : Int} {u : T} {key z' z : Int} (hS : Srt (T.node r l k v' u).row) (hH : Hp (.node r l k v' u)) (hz : l.size + u.size ≤ 200) (hk : k < key) (hg : GoodD u key ns' z') (hK : Kid1 ns' z' l k v' u ns'' z) : GoodD (.node r l k v' u) key ns'' z := by
  obtain ⟨t, h1, h2, h3, h4⟩ := hg
  refine ⟨.node z l k v' t, hK t h1 h2 ?_, rfl, ?_, ⟨hH.1, fun x hx => hH.2.1 x (mem_delR (h3 ▸ hx)), hH.2.2.1, h4⟩⟩
  · rw [← T.row_length, h3]
    have : (delR u.row key).length ≤ u.row.length := List.length_filter_le _ _
    rw [T.row_length] at this
    omega
  · simp only [T.row]
    rw [del_right hS hk, h3]

end Go.Proofs.Ythgaogbpkedjcaa

/-
  Contracts: Del of package treap.
-/
set_option linter.unusedVariables false
set_option linter.unusedSimpArgs false
namespace Go.Proofs.Ythgaogbpkedjcaa
open Go.RowKit

end Go.Proofs.Ythgaogbpkedjcaa

/-
  Contract: Split of package treap.
-/
set_option linter.unusedVariables false
set_option linter.unusedSimpArgs false
namespace Go.Proofs.Ythgaogbpkedjcaa
open Go.RowKit

/-- What Split answers. -/
def ResS (ns : List Nd) (fs : List Int) (c : Nat) (l1 l2 : Row) (w : World) (e : Ending) (w' : World) : Prop :=
  ((e = .returned (.tuple #[.agg #[.slice none 0 0, .slice none 0 0], .int .u64 0, .int .u64 0, .int .i64 2]) ∧ fs.length < c) ∨
    ∃ (A : Option Addr) (n c' : Nat) (B : Option Addr) (m d : Nat) (ns' : List Nd) (fs' : List Int) (z1 z2 : Int), e = .returned (.tuple #[.agg #[.slice A n c', .slice B m d], .int .u64 z1, .int .u64 z2, .int .i64 0]) ∧ Ar w' A n B m ns' fs' ∧ ArMay ns' fs' ∧ Gr ns fs ns' fs' c ∧ U z1 ∧ U z2 ∧ IsP ns' z1 l1 ∧ IsP ns' z2 l2) ∧ Ext w w'

end Go.Proofs.Ythgaogbpkedjcaa

/-
  Contracts: Join of package treap.
-/
set_option linter.unusedVariables false
set_option linter.unusedSimpArgs false
namespace Go.Proofs.Ythgaogbpkedjcaa
open Go.RowKit

end Go.Proofs.Ythgaogbpkedjcaa

/-
  Contract: Get of package treap.
-/
set_option linter.unusedVariables false
set_option linter.unusedSimpArgs false
namespace Go.Proofs.Ythgaogbpkedjcaa
open Go.RowKit

/-- A key's value in a tree, and the error. -/
def getS : T → Int × Int
  | .nil => (0, 3)
  | .node _ _ _ v _ => (v, 0)
def getT (t : T) (key : Int) : Int × Int := getS (t.sub key)

end Go.Proofs.Ythgaogbpkedjcaa

/-
  Contract: a key that is put is got (alive of the statements of layer 6).
-/
set_option linter.unusedVariables false
set_option linter.unusedSimpArgs false
namespace Go.Proofs.Ythgaogbpkedjcaa
open Go.RowKit

theorem mp_nil (ns : List Nd) : Mp ns .nil := ⟨trivial, by simp [Srt, T.row], trivial, Nat.zero_le _⟩
theorem isP_mp {ns : List Nd} {z : Int} {l : Row} (h : IsP ns z l) (hs : Srt l) (hl : l.length ≤ 200) : ∃ t, Mp ns t ∧ t.ref = z ∧ t.row = l := by
  obtain ⟨t, h1, h2, h3, h4⟩ := h
  exact ⟨t, ⟨h1, by rw [h3]; exact hs, h4, by rw [← T.row_length, h3]; exact hl⟩, h2, h3⟩
theorem getT_row {t : T} {key v : Int} (hs : Srt t.row) (h : (key, v) ∈ t.row) : getT t key = (v, 0) := by
  rcases sub_is hs key with ⟨_, hn⟩ | ⟨r, l, v', u, e, hm⟩
  · exact absurd ⟨v, h⟩ hn
  · have : v' = v := by
      obtain ⟨i, hi⟩ := List.getElem?_of_mem h
      obtain ⟨j, hj⟩ := List.getElem?_of_mem hm
      by_cases e : i = j
      · subst e
        rw [hi] at hj
        injection hj with hj
        injection hj with _ hj
        exact hj.symm
      · exfalso
        have hp := List.pairwise_iff_getElem.1 hs
        obtain ⟨i1, i2⟩ := List.getElem?_eq_some_iff.1 hi
        obtain ⟨j1, j2⟩ := List.getElem?_eq_some_iff.1 hj
        rcases Nat.lt_or_gt_of_ne e with h' | h'
        · have := hp i j i1 j1 h'
          rw [i2, j2] at this
          simp at this
        · have := hp j i j1 i1 h'
          rw [i2, j2] at this
          simp at this
    subst this
    unfold getT
    rw [e]
    rfl
theorem getT_none {t : T} {key : Int} (hs : Srt t.row) (h : ¬ HasK t.row key) : getT t key = (0, 3) := by
  rcases sub_is hs key with ⟨e, _⟩ | ⟨r, l, v', u, e, hm⟩
  · unfold getT
    rw [e]
    rfl
  · exact absurd ⟨v', hm⟩ h

end Go.Proofs.Ythgaogbpkedjcaa
