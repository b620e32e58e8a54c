/-
  Contract: keys are handed on (handOn), for whatever is done with them.
-/
import Derived.Test.YthgaogbpkedjcaaGI
import Derived.RangeFuncNested
import Derived.RangeFuncBound
import Derived.RangeFuncLeaves
import Derived.Shelf.Abstract
import Derived.WalkKit
import Derived.OwnWalkIn
import Derived.TacticsInMore
set_option linter.unusedVariables false
set_option linter.unusedSimpArgs false
namespace Go.Proofs.Ythgaogbpkedjcaa
open Go.RowKit

attribute [local go_sem] Oper.semAt_some

/-- Block b holds these cells, of this type. -/
def Lk (t : TypeId) (W : World) (b : Nat) (cs : Array Value) : Prop := W.heap[b]? = some (.cells cs t (0, 0))
theorem Lk.new (W : World) (t : TypeId) (cs : Array Value) : Lk t (W.alloc (.cells cs t)) W.heap.size cs := World.alloc_heap_new W _
theorem Lk.lt {t : TypeId} {W : World} {b : Nat} {cs : Array Value} (h : Lk t W b cs) : b < W.heap.size := (Array.getElem?_eq_some_iff.1 h).1
theorem Lk.to {t : TypeId} {W W' : World} {b : Nat} {cs : Array Value} (h : Lk t W b cs) (hx : Ext W W') : Lk t W' b cs := (hx.block b h.lt).trans h
theorem Lk.cell {t : TypeId} {W : World} {b : Nat} {cs : Array Value} (h : Lk t W b cs) (j : Nat) : W.cell? ⟨b, j, none⟩ = cs[j]? := by
  unfold Lk at h
  simp [World.cell?, h]

/-- What the rounds between two keys handed on keep. -/
structure Keeps (Kp : World → World → Prop) (n0 : Nat) (A : Option Addr) (n : Nat) (ns : List Nd) : Prop where
  nodes : ∀ W W', Kp W W' → Rd W 16 A n (flat Nd.cells ns) → Rd W' 16 A n (flat Nd.cells ns)
  arena : ∀ W W' b cs, Kp W W' → n0 ≤ b → Lk 25 W b cs → Lk 25 W' b cs
  node : ∀ W W' b cs, Kp W W' → n0 ≤ b → Lk 66 W b cs → Lk 66 W' b cs
  ext : ∀ W W', Ext W W' → Kp W W'
  trans : ∀ W W' W'', Kp W W' → Kp W' W'' → Kp W W''
  size : ∀ W W', Kp W W' → W.heap.size ≤ W'.heap.size

/-- An item as a value. -/
abbrev itv (x : Int × Int) : Value := .agg #[.int .i64 x.1, .int .i64 x.2]
/-- What a round answers to a key. -/
def Round (Kp : World → World → Prop) (J Jx : Row → World → Prop) (pre : Row) (x : Int × Int) (W : World) (e : Ending) (W' : World) : Prop :=
  (e = .returned (.bool true) ∧ J (pre ++ [x]) W' ∧ Kp W W') ∨ (e = .returned (.bool false) ∧ Jx (pre ++ [x]) W')
/-- What handOn answers, of the row q. -/
def HandA (Kp : World → World → Prop) (J Jx : Row → World → Prop) (pre q : Row) (W : World) (e : Ending) (W' : World) : Prop :=
  (e = .returned (.bool true) ∧ J (pre ++ q) W' ∧ Kp W W') ∨ (e = .returned (.bool false) ∧ ∃ p, p <+: q ∧ Jx (pre ++ p) W')
theorem HandA.nil {Kp : World → World → Prop} {J Jx : Row → World → Prop} {pre : Row} {W W' : World} (hJ : J pre W') (hK : Kp W W') : HandA Kp J Jx pre [] W (.returned (.bool true)) W' :=
  .inl ⟨rfl, by simpa using hJ, hK⟩

def handF (k : Nat) : Code → Option Code
  | .region id ops b => if id == k then some (.region id ops b) else none
  | .seq a b => match handF k a with
    | some c => some (.seq c b)
    | none => handF k b
  | _ => none
noncomputable def handT (k : Nat) : Code := ((Try.f47.body.bind (handF k)).getD .skip)

theorem yield_any {m m' : Nat} {P : Program} {l : Nat} {args : Array Value} {W : World} {R : Ending → World → Prop} (h : YieldAt Fence.wide m P l args W R) : YieldAt Fence.wide m' P l args W R := by
  obtain ⟨fn, tmps, assign, body, hy, hR⟩ := h
  exact ⟨fn, tmps, assign, body, hy, hR.1, fun c cs _ => hR.2 c cs (room_wide _)⟩

set_option maxHeartbeats 3200000 in
set_option maxRecDepth 100000 in
/-- From the node's own key on. -/
theorem hand_6 {Kp : World → World → Prop} {J Jx : Row → World → Prop} {n0 N lo ba bn : Nat} {A B : Option Addr} {n c m d : Nat} {ns : List Nd} {q : T} (hKp : Keeps Kp n0 A n ns) (low high k v g s l0 : Int) (hq : ∀ x ∈ q.row, k < x.1) (pre : Row) (W : World) (R : Ending → World → Prop)
    (hA : Lk 25 W ba #[.slice A n c, .slice B m d]) (hB : Lk 66 W bn (trNd g k v s l0 q.ref).arr) (hba : n0 ≤ ba) (hbn : n0 ≤ bn) (hs : n0 ≤ W.heap.size) (hRd : Rd W 16 A n (flat Nd.cells ns)) (hJ : J pre W)
    (hN : pre.length + (inn ((k, v) :: q.row) low high).length ≤ N)
    (hY : ∀ m pre x W, J pre W → n0 ≤ W.heap.size → pre.length < N → YieldAt Fence.wide m Try.prog lo #[itv x] W (Round Kp J Jx pre x W))
    (ih : ∀ (pre : Row) (W : World), n0 ≤ W.heap.size → Rd W 16 A n (flat Nd.cells ns) → J pre W → pre.length + (inn q.row low high).length ≤ N →
      Calls Try.prog 47 #[.agg #[.slice A n c, .slice B m d], .int .u64 q.ref, .int .i64 low, .int .i64 high, .func (.yield lo) #[] #[]] W (HandA Kp J Jx pre (inn q.row low high) W))
    (HR : ∀ e W', HandA Kp J Jx pre (inn ((k, v) :: q.row) low high) W e W' → R e W')
    (c0 c1 c6 c7 c8 c9 c10 c12 c13 c14 c15 c16 c17 c18 c19 c20 c21 c22 c23 c24 c25 c26 c27 c28 c29 c30 c31 c32 c33 c34 c35 c36 c37 c38 c39 c40 c41 c42 c43 c44 c45 c46 c47 c48 c49 c50 c51 c52 c53 c54 c55 c56 c57 c58 c59 c60 c61 c62 c63 c64 c65 : Value) :
    Code.wp Try.prog (handT 6) (bodyPost Try.prog Try.f47 R) ⟨List.toArray (c0 :: c1 :: .int .i64 low :: .int .i64 high :: .func (.yield lo) #[] #[] :: .pointer (some ⟨ba, 0, none⟩) :: c6 :: c7 :: c8 :: c9 :: c10 :: .pointer (some ⟨bn, 0, none⟩) :: c12 :: c13 :: c14 :: c15 :: c16 :: c17 :: c18 :: c19 :: c20 :: c21 :: c22 :: c23 :: c24 :: c25 :: c26 :: c27 :: c28 :: c29 :: c30 :: c31 :: c32 :: c33 :: c34 :: c35 :: c36 :: c37 :: c38 :: c39 :: c40 :: c41 :: c42 :: c43 :: c44 :: c45 :: c46 :: c47 :: c48 :: c49 :: c50 :: c51 :: c52 :: c53 :: c54 :: c55 :: c56 :: c57 :: c58 :: c59 :: c60 :: c61 :: c62 :: c63 :: c64 :: c65 :: []), []⟩ W := by
  have q0 : W.cell? ⟨ba, 0, none⟩ = some (.slice A n c) := hA.cell 0
  have q1 : W.cell? ⟨ba, 1, none⟩ = some (.slice B m d) := hA.cell 1
  have n2 : W.cell? ⟨bn, 2, none⟩ = some (.int .i64 k) := (hB.cell 2).trans rfl
  have n3 : W.cell? ⟨bn, 3, none⟩ = some (.int .i64 v) := (hB.cell 3).trans rfl
  rw [inn_cons] at hN HR
  have n6 : W.cell? ⟨bn, 6, none⟩ = some (.int .u64 q.ref) := (hB.cell 6).trans rfl
  have HQ := Lib.hid hq
  have HK := Lib.hid hKp
  have H0 := Lib.hid HR
  have IHH := Lib.hid ih
  by_cases hin : low ≤ k ∧ k ≤ high
  · rw [if_pos hin] at hN H0
    rw [List.length_append, List.length_singleton] at hN
    have HYL := Lib.hid (hY 0 pre (k, v) W hJ hs (by omega))
    have HT := Lib.hid (fun W' (hJ' : J (pre ++ [(k, v)]) W') (hK : Kp W W') => (show Lk 25 W' ba #[.slice A n c, .slice B m d] ∧ Lk 66 W' bn (trNd g k v s l0 q.ref).arr ∧ Calls Try.prog 47 #[.agg #[.slice A n c, .slice B m d], .int .u64 q.ref, .int .i64 low, .int .i64 high, .func (.yield lo) #[] #[]] W' (HandA Kp J Jx (pre ++ [(k, v)]) (inn q.row low high) W') ∧ HandA Kp J Jx pre [(k, v)] W (.returned (.bool true)) W' from
      ⟨hKp.arena _ _ _ _ hK hba hA, hKp.node _ _ _ _ hK hbn hB, ih _ _ (Nat.le_trans hs (hKp.size _ _ hK)) (hKp.nodes _ _ hK hRd) hJ' (by rw [List.length_append, List.length_singleton]; omega), .inl ⟨rfl, hJ', hK⟩⟩))
    have HX := Lib.hid (fun W' (h : Jx (pre ++ [(k, v)]) W') => H0.out (.returned (.bool false)) W' (.inr ⟨rfl, [(k, v)], List.prefix_append _ _, h⟩))
    have HG := Lib.hid (fun W1 W2 e (hK : Kp W W1) (h : HandA Kp J Jx (pre ++ [(k, v)]) (inn q.row low high) W1 e W2) => H0.out e W2 (by
        rcases h with ⟨rfl, h1, h2⟩ | ⟨rfl, p, h1, h2⟩
        · exact .inl ⟨rfl, by rw [← List.append_assoc]; exact h1, hKp.trans _ _ _ hK h2⟩
        · exact .inr ⟨rfl, [(k, v)] ++ p, List.prefix_append_right_inj _ |>.2 h1, by rw [← List.append_assoc]; exact h2⟩))
    obtain ⟨fn, tmps, assign, body, hy, hR⟩ := HYL.out
    have HRR := Lib.hid hR
    obtain ⟨h1, h2⟩ := hin
    clear HYL hR hY ih hq hA hB hba hbn hs hRd hJ hN HR hKp IHH
    unfold itv at hy
    dsimp only at hy
    conv => arg 2; whnf
    refine (wpIn_wide (n := 1)).1 ?_
    gi_wp2
    refine HRR.out.mono ?_
    rintro e W' (⟨rfl, hJ', hK'⟩ | ⟨rfl, hx'⟩)
    · obtain ⟨A', B', C', D'⟩ := HT.out W' hJ' hK'
      have HC := Lib.hid C'
      have HJ' := Lib.hid hJ'
      have HK' := Lib.hid hK'
      clear HT HX HRR hy q0 q1 n2 n3 n6 C' D' hJ' hK'
      have q0 : W'.cell? ⟨ba, 0, none⟩ = some (.slice A n c) := A'.cell 0
      have q1 : W'.cell? ⟨ba, 1, none⟩ = some (.slice B m d) := A'.cell 1
      have n2 : W'.cell? ⟨bn, 2, none⟩ = some (.int .i64 k) := (B'.cell 2).trans rfl
      have n6 : W'.cell? ⟨bn, 6, none⟩ = some (.int .u64 q.ref) := (B'.cell 6).trans rfl
      clear A' B'
      by_cases hk : high ≤ k
      · have he : inn q.row low high = [] := inn_high (fun x hx => by have := HQ.out x hx; omega)
        have HD := Lib.hid (HG.out W' W' _ HK'.out (by rw [he]; exact HandA.nil HJ'.out (HK.out.ext _ _ (Ext.refl _))))
        clear he HC
        gi_wp2
        refine ⟨trivial, ?_⟩
        gi_wp2
        exact HD.out
      · gi_wp2
        refine ⟨trivial, ?_⟩
        refine (callsIn_wide.2 HC.out).mono ?_
        rintro e W2 h
        have HD := Lib.hid (HG.out W' W2 e HK'.out h)
        rcases h with ⟨rfl, h⟩ | ⟨rfl, h⟩
        · clear h
          gi_wp2
          exact HD.out
        · clear h
          gi_wp2
          rw [show decide (high ≤ k) = false by simpa using hk]
          exact HD.out
    · have HD := Lib.hid (HX.out W' hx')
      clear HT HX HRR hy q0 q1 n2 n3 n6 hx' HG HK HQ H0
      gi_wp2
      exact HD.out
  · rw [if_neg hin, List.nil_append] at hN H0
    have HC := Lib.hid (ih pre W hs hRd hJ hN)
    have HE := Lib.hid (HandA.nil (Kp := Kp) (J := J) (Jx := Jx) hJ (hKp.ext _ _ (Ext.refl W)))
    clear hY ih hq hA hB hba hbn hs hRd hJ hN HR hKp IHH
    by_cases hk : high ≤ k
    · have he : inn q.row low high = [] := inn_high (fun x hx => by have := HQ.out x hx; omega)
      have HD := Lib.hid (H0.out _ W (by rw [he]; exact HE.out))
      clear he HC
      by_cases h1 : low ≤ k
      · by_cases h2 : k ≤ high
        · exact absurd ⟨h1, h2⟩ hin
        clear hin
        conv => arg 2; whnf
        go_wp2_with fail
        exact HD.out
      · clear hin
        conv => arg 2; whnf
        go_wp2_with fail
        exact HD.out
    · have h1 : ¬ low ≤ k := fun h => hin ⟨h, by omega⟩
      clear hin
      conv => arg 2; whnf
      go_wp2_with fail
      refine HC.out.mono ?_
      rintro e W' h
      have HD := Lib.hid (H0.out _ _ h)
      rcases h with ⟨rfl, h⟩ | ⟨rfl, h⟩
      · clear h
        go_wp2_with fail
        exact HD.out
      · clear h
        go_wp2_with fail
        exact HD.out

set_option maxHeartbeats 3200000 in
set_option maxRecDepth 100000 in
theorem hand_is {Kp : World → World → Prop} {J Jx : Row → World → Prop} {n0 N lo : Nat} {A B : Option Addr} {n c m d : Nat} {ns : List Nd} (hKp : Keeps Kp n0 A n ns) (low high : Int) (hok : ∀ x ∈ ns, x.Ok)
    (hJe : ∀ pre W W', J pre W → Ext W W' → J pre W')
    (hY : ∀ m pre x W, J pre W → n0 ≤ W.heap.size → pre.length < N → YieldAt Fence.wide m Try.prog lo #[itv x] W (Round Kp J Jx pre x W)) :
    ∀ (t : T) (pre : Row) (W : World), Rep ns t → Srt t.row → U t.ref → n0 ≤ W.heap.size → Rd W 16 A n (flat Nd.cells ns) → J pre W → pre.length + (inn t.row low high).length ≤ N →
      Calls Try.prog 47 #[.agg #[.slice A n c, .slice B m d], .int .u64 t.ref, .int .i64 low, .int .i64 high, .func (.yield lo) #[] #[]] W (HandA Kp J Jx pre (inn t.row low high) W) := by
  intro t
  induction t with
  | nil =>
    intro pre W _ _ _ _ _ hJ _
    have HD := Lib.hid (show HandA Kp J Jx pre (inn T.nil.row low high) W (.returned (.bool true)) (W.alloc (.cells #[.slice A n c, .slice B m d] 25)) from HandA.nil (hJe _ _ _ hJ ((Ext.refl W).new _)) (hKp.ext _ _ ((Ext.refl W).new _)))
    rw [show T.nil.ref = 0 from rfl]
    clear hKp hok hJe hY hJ
    go_enter Try.func47, Try.ntmps47
    go_wp2_with fail
    go_ret
    exact HD.out
  | node r l k v u ihl ihu =>
    intro pre W hR hS hU hs hRd hJ hN
    obtain ⟨g, hnode⟩ := hR.node
    have hkids := hR.kids hok
    have hr0 : (r != 0) = true := by simp [hR.ref_nz]
    rw [show (T.node r l k v u).row = l.row ++ (k, v) :: u.row from rfl] at hS hN ⊢
    obtain ⟨hsl, hsu, hlk, hku, _⟩ := Srt.mid.1 hS
    rw [inn_app] at hN ⊢
    rw [List.length_append] at hN
    have IHL := Lib.hid (fun pre W h1 h2 h3 h4 => ihl pre W hR.2.1 hsl hkids.1 h1 h2 h3 h4)
    have IHU := Lib.hid (fun pre W h1 h2 h3 h4 => ihu pre W hR.2.2 hsu hkids.2 h1 h2 h3 h4)
    rw [show (T.node r l k v u).ref = r from rfl] at hU ⊢
    obtain ⟨w1, hw1⟩ : ∃ w1, w1 = W.alloc (.cells #[.slice A n c, .slice B m d] 25) := ⟨_, rfl⟩
    obtain ⟨B1, hx1, hs1⟩ := box_made hw1
    have L1 : Lk 25 w1 W.heap.size #[.slice A n c, .slice B m d] := by rw [hw1]; exact Lk.new _ _ _
    have HN := Lib.hid (spNode_is A B n c m d ns r w1 hU.1 hU.2 (hRd.to hx1))
    rw [hnode] at HN
    have k0 : w1.cell? ⟨W.heap.size, 0, none⟩ = some (.slice A n c) := B1.cell 0
    have k1 : w1.cell? ⟨W.heap.size, 1, none⟩ = some (.slice B m d) := B1.cell 1
    have H1 := Lib.hid hw1
    have HL1 := Lib.hid L1
    have HX1 := Lib.hid hx1
    have hba : n0 ≤ W.heap.size := hs
    obtain ⟨ba, hbae⟩ : ∃ b, b = W.heap.size := ⟨_, rfl⟩
    have HBA := Lib.hid hbae
    have HW0 := Lib.hid (show n0 ≤ W.heap.size ∧ Rd W 16 A n (flat Nd.cells ns) ∧ J pre W from ⟨hs, hRd, hJ⟩)
    have HN' := Lib.hid hN
    have HKU := Lib.hid hku
    have HLK := Lib.hid hlk
    clear hw1 L1 hx1 hs1 B1 ihl ihu hnode hR hS hRd hJ hN hsl hsu hlk hku hs hba hbae
    go_enter Try.func47, Try.ntmps47
    go_wp2_with fail
    rw [← H1.out, ← HBA.out]
    refine HN.out.mono ?_; rintro e w3 ⟨rfl, hx3⟩
    obtain ⟨w4, hw4⟩ : ∃ w4, w4 = w3.alloc (.cells (trNd g k v ((l.size + u.size + 1 : Nat) : Int) l.ref u.ref).arr 66) := ⟨_, rfl⟩
    obtain ⟨B4, hx4, hs4⟩ := box_made hw4
    have L4 : Lk 66 w4 w3.heap.size (trNd g k v ((l.size + u.size + 1 : Nat) : Int) l.ref u.ref).arr := by rw [hw4]; exact Lk.new _ _ _
    have H4 := Lib.hid hw4
    have L14 : Lk 25 w4 ba #[.slice A n c, .slice B m d] := by rw [HBA.out]; exact HL1.out.to (hx3.step hx4)
    have X4 := HX1.out.step (hx3.step hx4)
    have hn3 : n0 ≤ w3.heap.size := Nat.le_trans HW0.out.1 (Nat.le_trans HX1.out.size hx3.size)
    have hba : n0 ≤ ba := by rw [HBA.out]; exact HW0.out.1
    obtain ⟨bn, hbn⟩ : ∃ b, b = w3.heap.size := ⟨_, rfl⟩
    have HBN := Lib.hid hbn
    rw [← hbn] at hn3 L4
    have q0 : w4.cell? ⟨ba, 0, none⟩ = some (.slice A n c) := L14.cell 0
    have q1 : w4.cell? ⟨ba, 1, none⟩ = some (.slice B m d) := L14.cell 1
    have n2 : w4.cell? ⟨bn, 2, none⟩ = some (.int .i64 k) := (L4.cell 2).trans rfl
    have n5 : w4.cell? ⟨bn, 5, none⟩ = some (.int .u64 l.ref) := (L4.cell 5).trans rfl
    have HL4 := Lib.hid L4
    have HA4 := Lib.hid L14
    have HX4 := Lib.hid X4
    have HB0 := Lib.hid hn3
    have HB1 := Lib.hid hba
    have hs4n : n0 ≤ w4.heap.size := Nat.le_trans HW0.out.1 X4.size
    have HS4 := Lib.hid hs4n
    clear hw4 k0 k1 L4 L14 X4 hx3 hx4 hs4 B4 hn3 hba hbn hs4n HX1 HL1 HN
    go_upto_region 4 with (first
      | (refine wpList_store_nd (W := w3) (by rfl) _ _ (by rfl) (by rfl) (trNd g k v ((l.size + u.size + 1 : Nat) : Int) l.ref u.ref) (by rfl) _ (by rfl) (by rfl) ?_; rw [← H4.out, ← HBN.out]))
    rename ∀ (a : Act) (w : World), Code.wp _ (Code.seq _ _) _ a w → _ => hK
    have HK := Lib.hid hK
    clear hK H4 HBN HBA
    have HP := Lib.hid (fun (W' : World) (hK' : Kp W W') (hJ' : J (pre ++ inn l.row low high) W') (hsz : n0 ≤ W'.heap.size) (hRd' : Rd W' 16 A n (flat Nd.cells ns)) (hA' : Lk 25 W' ba #[.slice A n c, .slice B m d]) (hB' : Lk 66 W' bn (trNd g k v ((l.size + u.size + 1 : Nat) : Int) l.ref u.ref).arr) =>
      hand_6 (lo := lo) (N := N) (R := HandA Kp J Jx pre (inn l.row low high ++ inn ((k, v) :: u.row) low high) W) hKp low high k v g ((l.size + u.size + 1 : Nat) : Int) l.ref HKU.out (pre ++ inn l.row low high) W' hA' hB' HB1.out HB0.out hsz hRd' hJ' (by rw [List.length_append]; have := HN'.out; omega) hY IHU.out (fun e W'' h => by
        rcases h with ⟨rfl, h1, h2⟩ | ⟨rfl, p, h1, h2⟩
        · exact .inl ⟨rfl, by rw [← List.append_assoc]; exact h1, hKp.trans _ _ _ hK' h2⟩
        · exact .inr ⟨rfl, inn l.row low high ++ p, List.prefix_append_right_inj _ |>.2 h1, by rw [← List.append_assoc]; exact h2⟩))
    by_cases hlow : low < k
    · have HC := Lib.hid (IHL.out pre w4 HS4.out (HW0.out.2.1.to HX4.out) (hJe _ _ _ HW0.out.2.2 HX4.out) (by have := HN'.out; omega))
      have HKE := Lib.hid hKp
      clear hKp hJe hY hok
      go_wp2_with fail
      refine HC.out.mono ?_
      rintro e W' (⟨rfl, hJ', hK'⟩ | ⟨rfl, p, hp, hx⟩)
      · have HP' := Lib.hid (HP.out W' (HKE.out.trans _ _ _ (HKE.out.ext _ _ HX4.out) hK') hJ' (Nat.le_trans HS4.out (HKE.out.size _ _ hK')) (HKE.out.nodes _ _ hK' (HW0.out.2.1.to HX4.out)) (HKE.out.arena _ _ _ _ hK' HB1.out HA4.out) (HKE.out.node _ _ _ _ hK' HB0.out HL4.out))
        clear q0 q1 n2 n5 hJ' hK' HP
        go_wp2_with fail
        refine HK.out _ _ ?_
        exact HP'.out _ _ _ _ _ _ _ _ _ _ _ _ _ _ _ _ _ _ _ _ _ _ _ _ _ _ _ _ _ _ _ _ _ _ _ _ _ _ _ _ _ _ _ _ _ _ _ _ _ _ _ _ _ _ _ _ _ _ _ _ _
      · have HD := Lib.hid (show HandA Kp J Jx pre (inn l.row low high ++ inn ((k, v) :: u.row) low high) W (.returned (.bool false)) W' from .inr ⟨rfl, p, hp.trans (List.prefix_append _ _), hx⟩)
        clear q0 q1 n2 n5 hp hx HP
        go_wp2_with fail
        go_ret
        exact HD.out
    · have he : inn l.row low high = [] := inn_low (fun x hx => by have := HLK.out x hx; omega)
      have HP' := Lib.hid (HP.out w4 (hKp.ext _ _ HX4.out) (by rw [he, List.append_nil]; exact hJe _ _ _ HW0.out.2.2 HX4.out) HS4.out (HW0.out.2.1.to HX4.out) HA4.out HL4.out)
      clear he HP hKp hJe hY hok
      go_wp2_with fail
      refine HK.out _ _ ?_
      exact HP'.out _ _ _ _ _ _ _ _ _ _ _ _ _ _ _ _ _ _ _ _ _ _ _ _ _ _ _ _ _ _ _ _ _ _ _ _ _ _ _ _ _ _ _ _ _ _ _ _ _ _ _ _ _ _ _ _ _ _ _ _ _

end Go.Proofs.Ythgaogbpkedjcaa
