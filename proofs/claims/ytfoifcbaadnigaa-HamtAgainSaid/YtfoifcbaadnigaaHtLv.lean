/-
  Contract: the leaves to which a key's digits lead in a table (leavesBy).
-/
import Derived.Test.YtfoifcbaadnigaaHtTab4
set_option linter.unusedVariables false
set_option linter.unusedSimpArgs false
namespace Go.Proofs.Ytfoifcbaadnigaa
open Go.RowKit

/-- A slice shows references, in memory that came behind 'base' and may be written as far as its capacity goes. -/
structure Sl (W : World) (base : Nat) (A : Option Addr) (n c : Nat) (zs : List Int) : Prop where
  rd : Rd W 1 A n (Us zs)
  le : n ≤ c
  cap : c ≤ 1000
  own : ∀ q, A = some q → base ≤ q.block ∧ q.block < W.heap.size ∧ ∀ j, j < c → (W.cell? (q.add j)).isSome = true ∧ W.frozen? (q.add j) = false
  nil_ : A = none → c = 0
theorem Sl.to {W W' : World} {base : Nat} {A : Option Addr} {n c : Nat} {zs : List Int} (h : Sl W base A n c zs) (hx : Ext W W') : Sl W' base A n c zs := by
  refine ⟨h.rd.to hx, h.le, h.cap, fun q hq => ?_, h.nil_⟩
  obtain ⟨h1, h2, h3⟩ := h.own q hq
  refine ⟨h1, Nat.lt_of_lt_of_le h2 hx.size, fun j hj => ?_⟩
  obtain ⟨h4, h5⟩ := h3 j hj
  have hb : (q.add j).block < W.heap.size := by rw [addr_block]; exact h2
  exact ⟨by rw [hx.cell hb]; exact h4, by rw [hx.frozen hb]; exact h5⟩
theorem Sl.base {W : World} {base base' : Nat} {A : Option Addr} {n c : Nat} {zs : List Int} (h : Sl W base A n c zs) (hb : base' ≤ base) : Sl W base' A n c zs :=
  ⟨h.rd, h.le, h.cap, fun q hq => by obtain ⟨h1, h2, h3⟩ := h.own q hq; exact ⟨Nat.le_trans hb h1, h2, h3⟩, h.nil_⟩
theorem Sl.nil (W : World) (base : Nat) : Sl W base none 0 0 [] := ⟨Rd.nil _ _ _, Nat.le_refl _, by omega, fun q hq => (by cases hq), fun _ => rfl⟩
theorem Sl.len {W : World} {base : Nat} {A : Option Addr} {n c : Nat} {zs : List Int} (h : Sl W base A n c zs) : zs.length = n := h.rd.u64len
theorem Sl.one (w : World) (r : Int) (e : TypeId) : Sl (w.alloc (.cells #[.int .u64 r] e)) w.heap.size (some ⟨w.heap.size, 0, .none⟩) 1 1 [r] := by
  have B := Bx.new w #[.int .u64 r] e
  refine ⟨Rd.lit w #[.int .u64 r] e 1 rfl, Nat.le_refl _, by omega, fun q hq => ?_, fun h => by cases h⟩
  injection hq with hq
  subst hq
  refine ⟨Nat.le_refl _, B.lt, fun j hj => ?_⟩
  obtain rfl : j = 0 := by omega
  exact ⟨by show (World.cell? _ ⟨w.heap.size, 0, .none⟩).isSome = true; rw [B.cell]; rfl, B.free 0⟩
theorem Bx.sl {W : World} {b base : Nat} {x : Nd} (h : Bx W b x.arr) (hb : base ≤ b) {m : Nat} (hm : m ≤ 9) : Sl W base (some ⟨b, 5, none⟩) m 9 (x.kids.take m) := by
  refine ⟨h.kidRow hm, hm, by omega, fun q hq => ?_, fun h => by cases h⟩
  injection hq with hq
  subst hq
  refine ⟨hb, h.lt, fun j hj => ?_⟩
  have e : (⟨b, 5, .none⟩ : Addr).add j = ⟨b, 5 + j, .none⟩ := by
    unfold Addr.add
    split
    · rename_i h0; subst h0; rfl
    · rfl
  rw [e]
  exact ⟨by rw [h.kidAt hj]; rfl, h.free _⟩

theorem own_low {w : World} {base base' : Nat} {e : TypeId} {size n : Nat} {v : Value} {xs : List Value} (h : w.ownsRow base e size v n xs) (hb : base' ≤ base) : w.ownsRow base' e size v n xs :=
  ⟨h.1, h.2.imp id fun ⟨g, cap, cur, h1, h2, h3⟩ => ⟨g, cap, cur, h1, Nat.le_trans hb h2, h3⟩⟩
/-- The leaves to which a key's digits lead. -/
def lby (key : Int) : HT → Nat → List Lf
  | .nil, _ => []
  | .leaf x, _ => [x]
  | .trie _ _ a b c d, lv => if dig key lv = 0 then lby key a (lv + 1) else if dig key lv = 1 then lby key b (lv + 1) else if dig key lv = 2 then lby key c (lv + 1) else lby key d (lv + 1)
  | .clash _ _ ls, _ => ls
def LbA (l : List Lf) (w : World) (e : Ending) (w' : World) : Prop := ∃ A n c, e = .returned (.slice A n c) ∧ (Sl w' w.heap.size A n c (l.map Lf.r) ∧ (l.length ≤ 1 → w'.ownsRow w.heap.size 31 1 (.slice A n c) n (Us (l.map Lf.r)))) ∧ Ext w w'
theorem LbA.step {l : List Lf} {w w1 : World} {e : Ending} {w' : World} (h : LbA l w1 e w') (hx : Ext w w1) : LbA l w e w' := by
  obtain ⟨A, n, c, h1, h2, h3⟩ := h
  exact ⟨A, n, c, h1, ⟨h2.1.base hx.size, fun hl => own_low (h2.2 hl) hx.size⟩, hx.step h3⟩

set_option maxHeartbeats 2000000 in
set_option maxRecDepth 100000 in
theorem htLvNil (A B : Option Addr) (n c m d : Nat) (ns : List Nd) (r : Int) (key : Int) (lv : Nat) (w : World) (hU : U r) (h : Rd w 16 A n (flat Nd.cells ns)) (hr : r = 0) (hk : (nodeF ns r).k = 0) :
    Calls Try.prog 33 #[.agg #[.slice A n c, .slice B m d], .int .u64 r, .int .i64 key, .int .i64 lv] w (LbA [] w) := by
  obtain ⟨w1, hw1⟩ : ∃ w1, w1 = w.alloc (.cells #[.slice A n c, .slice B m d] 26) := ⟨_, rfl⟩
  obtain ⟨B1, hx1, hs1⟩ := box_made hw1
  have HN := Lib.hid (htNode_is A B n c m d ns r w1 hU.1 hU.2 (h.to hx1))
  obtain ⟨x, hx⟩ : ∃ x, x = nodeF ns r := ⟨_, rfl⟩
  rw [← hx] at hk HN
  have HK := Lib.hid hk
  clear hr
  clear hk hx
  have H1 := Lib.hid hw1
  have HB1 := Lib.hid B1
  have X1 := Lib.hid hx1
  have j0 : w1.cell? ⟨w.heap.size, 0, none⟩ = some (.slice A n c) := B1.cell 0
  have j1 : w1.cell? ⟨w.heap.size, 1, none⟩ = some (.slice B m d) := B1.cell 1
  clear hw1 B1 hx1 hs1 h
  go_enter Try.func33, Try.ntmps33
  go_wp2_with fail
  rw [← H1.out]
  go_wp2_with fail
  refine HN.out.mono ?_; rintro e w3 ⟨rfl, hx3⟩
  obtain ⟨w4, hw4⟩ : ∃ w4, w4 = w3.alloc (.cells x.arr 68) := ⟨_, rfl⟩
  obtain ⟨B4, hx4, hs4⟩ := box_made hw4
  have H4 := Lib.hid hw4
  have HB4 := Lib.hid B4
  have HBA := Lib.hid (HB1.out.to (hx3.step hx4))
  have X4 := Lib.hid (X1.out.step (hx3.step hx4))
  have hs3 := Lib.hid (show w.heap.size ≤ w3.heap.size by have := HB1.out.lt; have := hx3.size; omega)
  have k0 : w4.cell? ⟨w3.heap.size, 0, none⟩ = some (.int .i64 0) := by rw [← HK.out]; exact (B4.cell 0).trans x.a0
  have i0 : w4.cell? ⟨w.heap.size, 0, none⟩ = some (.slice A n c) := HBA.out.cell 0
  have i1 : w4.cell? ⟨w.heap.size, 1, none⟩ = some (.slice B m d) := HBA.out.cell 1
  clear hw4 B4 hx3 hx4 hs4 j0 j1
  go_wp2_with (first
    | (refine wpList_store_nd (W := w3) (by rfl) _ _ (by rfl) (by rfl) x (by rfl) _ (by rfl) (by rfl) ?_; rw [← H4.out]))
  go_ret
  exact ⟨none, 0, 0, rfl, ⟨Sl.nil _ _, fun _ => World.ownsRow_nil _ _ _ _⟩, X4.out⟩

set_option maxHeartbeats 2000000 in
set_option maxRecDepth 100000 in
theorem htLvLeaf (A B : Option Addr) (n c m d : Nat) (ns : List Nd) (r : Int) (key : Int) (lv : Nat) (w : World) (hU : U r) (h : Rd w 16 A n (flat Nd.cells ns)) (y : Lf) (hy : y.r = r) (hk : (nodeF ns r).k = 3) :
    Calls Try.prog 33 #[.agg #[.slice A n c, .slice B m d], .int .u64 r, .int .i64 key, .int .i64 lv] w (LbA [y] w) := by
  obtain ⟨w1, hw1⟩ : ∃ w1, w1 = w.alloc (.cells #[.slice A n c, .slice B m d] 26) := ⟨_, rfl⟩
  obtain ⟨B1, hx1, hs1⟩ := box_made hw1
  have HN := Lib.hid (htNode_is A B n c m d ns r w1 hU.1 hU.2 (h.to hx1))
  obtain ⟨x, hx⟩ : ∃ x, x = nodeF ns r := ⟨_, rfl⟩
  rw [← hx] at hk HN
  have HK := Lib.hid hk
  have HY := Lib.hid hy
  clear hy
  clear hk hx
  have H1 := Lib.hid hw1
  have HB1 := Lib.hid B1
  have X1 := Lib.hid hx1
  have j0 : w1.cell? ⟨w.heap.size, 0, none⟩ = some (.slice A n c) := B1.cell 0
  have j1 : w1.cell? ⟨w.heap.size, 1, none⟩ = some (.slice B m d) := B1.cell 1
  clear hw1 B1 hx1 hs1 h
  go_enter Try.func33, Try.ntmps33
  go_wp2_with fail
  rw [← H1.out]
  go_wp2_with fail
  refine HN.out.mono ?_; rintro e w3 ⟨rfl, hx3⟩
  obtain ⟨w4, hw4⟩ : ∃ w4, w4 = w3.alloc (.cells x.arr 68) := ⟨_, rfl⟩
  obtain ⟨B4, hx4, hs4⟩ := box_made hw4
  have H4 := Lib.hid hw4
  have HB4 := Lib.hid B4
  have HBA := Lib.hid (HB1.out.to (hx3.step hx4))
  have X4 := Lib.hid (X1.out.step (hx3.step hx4))
  have hs3 := Lib.hid (show w.heap.size ≤ w3.heap.size by have := HB1.out.lt; have := hx3.size; omega)
  have k0 : w4.cell? ⟨w3.heap.size, 0, none⟩ = some (.int .i64 3) := by rw [← HK.out]; exact (B4.cell 0).trans x.a0
  have i0 : w4.cell? ⟨w.heap.size, 0, none⟩ = some (.slice A n c) := HBA.out.cell 0
  have i1 : w4.cell? ⟨w.heap.size, 1, none⟩ = some (.slice B m d) := HBA.out.cell 1
  clear hw4 B4 hx3 hx4 hs4 j0 j1
  go_wp2_with (first
    | (refine wpList_store_nd (W := w3) (by rfl) _ _ (by rfl) (by rfl) x (by rfl) _ (by rfl) (by rfl) ?_; rw [← H4.out]))
  have HS := Lib.hid (Sl.one w4 r 31)
  have HO := Lib.hid (World.ownsRow_lit (base := w.heap.size) (size := 1) (e := 31) w4 #[.int .u64 r] 1 X4.out.size (by unfold maxLen; omega) rfl)
  go_ret
  refine ⟨_, 1, 1, rfl, ⟨?_, fun _ => ?_⟩, X4.out.new _⟩
  · have := HS.out.base X4.out.size
    simp only [List.map_cons, List.map_nil, HY.out]
    exact this
  · simp only [List.map_cons, List.map_nil, HY.out]
    exact HO.out

set_option maxHeartbeats 2000000 in
set_option maxRecDepth 100000 in
theorem htLvClash (A B : Option Addr) (n c m d : Nat) (ns : List Nd) (r : Int) (key : Int) (lv : Nat) (w : World) (hU : U r) (h : Rd w 16 A n (flat Nd.cells ns)) (ls : List Lf) (hl2 : 2 ≤ ls.length) (hl : ls.length ≤ 9) (hx9 : (nodeF ns r).kids.take ls.length = ls.map Lf.r) (hs9 : (nodeF ns r).s = (ls.length : Nat)) (hk : (nodeF ns r).k = 4) :
    Calls Try.prog 33 #[.agg #[.slice A n c, .slice B m d], .int .u64 r, .int .i64 key, .int .i64 lv] w (LbA ls w) := by
  obtain ⟨w1, hw1⟩ : ∃ w1, w1 = w.alloc (.cells #[.slice A n c, .slice B m d] 26) := ⟨_, rfl⟩
  obtain ⟨B1, hx1, hs1⟩ := box_made hw1
  have HN := Lib.hid (htNode_is A B n c m d ns r w1 hU.1 hU.2 (h.to hx1))
  obtain ⟨x, hx⟩ : ∃ x, x = nodeF ns r := ⟨_, rfl⟩
  rw [← hx] at hk HN
  have HK := Lib.hid hk
  rw [← hx] at hx9 hs9
  obtain ⟨q, hq⟩ : ∃ q, q = ls.length := ⟨_, rfl⟩
  rw [← hq] at hl hl2 hx9 hs9
  have hq9 : ¬ 9 < q := by omega
  have hq2 : ¬ q < 2 := by omega
  have hq3 : (q : Int) ≤ 9 := by omega
  have hq4 : (0 : Int) ≤ q := by omega
  have H9 := Lib.hid hx9
  have HS9 := Lib.hid hs9
  have HL2 := Lib.hid (show ¬ ls.length ≤ 1 by omega)
  clear hx9 hs9 hq
  clear hk hx
  have H1 := Lib.hid hw1
  have HB1 := Lib.hid B1
  have X1 := Lib.hid hx1
  have j0 : w1.cell? ⟨w.heap.size, 0, none⟩ = some (.slice A n c) := B1.cell 0
  have j1 : w1.cell? ⟨w.heap.size, 1, none⟩ = some (.slice B m d) := B1.cell 1
  clear hw1 B1 hx1 hs1 h
  go_enter Try.func33, Try.ntmps33
  go_wp2_with fail
  rw [← H1.out]
  go_wp2_with fail
  refine HN.out.mono ?_; rintro e w3 ⟨rfl, hx3⟩
  obtain ⟨w4, hw4⟩ : ∃ w4, w4 = w3.alloc (.cells x.arr 68) := ⟨_, rfl⟩
  obtain ⟨B4, hx4, hs4⟩ := box_made hw4
  have H4 := Lib.hid hw4
  have HB4 := Lib.hid B4
  have HBA := Lib.hid (HB1.out.to (hx3.step hx4))
  have X4 := Lib.hid (X1.out.step (hx3.step hx4))
  have hs3 := Lib.hid (show w.heap.size ≤ w3.heap.size by have := HB1.out.lt; have := hx3.size; omega)
  have k0 : w4.cell? ⟨w3.heap.size, 0, none⟩ = some (.int .i64 4) := by rw [← HK.out]; exact (B4.cell 0).trans x.a0
  have i0 : w4.cell? ⟨w.heap.size, 0, none⟩ = some (.slice A n c) := HBA.out.cell 0
  have i1 : w4.cell? ⟨w.heap.size, 1, none⟩ = some (.slice B m d) := HBA.out.cell 1
  clear hw4 B4 hx3 hx4 hs4 j0 j1
  have k4 : w4.cell? ⟨w3.heap.size, 4, none⟩ = some (.int .i64 (q : Int)) := by rw [← HS9.out]; exact (HB4.out.cell 4).trans x.a4
  go_wp2_with (first
    | (refine wpList_store_nd (W := w3) (by rfl) _ _ (by rfl) (by rfl) x (by rfl) _ (by rfl) (by rfl) ?_; rw [← H4.out]))
  have HS := Lib.hid (HB4.out.sl (base := w.heap.size) hs3.out hl)
  rw [H9.out] at HS
  go_ret
  exact ⟨_, q, 9, rfl, ⟨HS.out, fun hl1 => absurd hl1 HL2.out⟩, X4.out⟩

set_option maxHeartbeats 2000000 in
set_option maxRecDepth 100000 in
theorem htLvTrie (A B : Option Addr) (n c m d : Nat) (ns : List Nd) (r : Int) (key : Int) (lv : Nat) (w : World) (hU : U r) (h : Rd w 16 A n (flat Nd.cells ns)) (i : Nat) (hi : i < 4) (hd : dig key lv = i) (hlv : lv < 10) (hok : ∀ x ∈ ns, x.Ok) (l : List Lf) (HI : ∀ W, Ext w W → Calls Try.prog 33 #[.agg #[.slice A n c, .slice B m d], .int .u64 (ith (nodeF ns r).kids i), .int .i64 key, .int .i64 ((lv : Int) + 1)] W (LbA l W)) (hk : (nodeF ns r).k = 2) :
    Calls Try.prog 33 #[.agg #[.slice A n c, .slice B m d], .int .u64 r, .int .i64 key, .int .i64 lv] w (LbA l w) := by
  obtain ⟨w1, hw1⟩ : ∃ w1, w1 = w.alloc (.cells #[.slice A n c, .slice B m d] 26) := ⟨_, rfl⟩
  obtain ⟨B1, hx1, hs1⟩ := box_made hw1
  have HN := Lib.hid (htNode_is A B n c m d ns r w1 hU.1 hU.2 (h.to hx1))
  obtain ⟨x, hx⟩ : ∃ x, x = nodeF ns r := ⟨_, rfl⟩
  rw [← hx] at hk HN
  have HK := Lib.hid hk
  rw [← hx] at HI
  have HII := Lib.hid HI
  have HD := Lib.hid (fun W => htDigit_is key lv (by omega) W)
  rw [hd] at HD
  clear HI hd hok
  clear hk hx
  have H1 := Lib.hid hw1
  have HB1 := Lib.hid B1
  have X1 := Lib.hid hx1
  have j0 : w1.cell? ⟨w.heap.size, 0, none⟩ = some (.slice A n c) := B1.cell 0
  have j1 : w1.cell? ⟨w.heap.size, 1, none⟩ = some (.slice B m d) := B1.cell 1
  clear hw1 B1 hx1 hs1 h
  go_enter Try.func33, Try.ntmps33
  go_wp2_with fail
  rw [← H1.out]
  go_wp2_with fail
  refine HN.out.mono ?_; rintro e w3 ⟨rfl, hx3⟩
  obtain ⟨w4, hw4⟩ : ∃ w4, w4 = w3.alloc (.cells x.arr 68) := ⟨_, rfl⟩
  obtain ⟨B4, hx4, hs4⟩ := box_made hw4
  have H4 := Lib.hid hw4
  have HB4 := Lib.hid B4
  have HBA := Lib.hid (HB1.out.to (hx3.step hx4))
  have X4 := Lib.hid (X1.out.step (hx3.step hx4))
  have hs3 := Lib.hid (show w.heap.size ≤ w3.heap.size by have := HB1.out.lt; have := hx3.size; omega)
  have k0 : w4.cell? ⟨w3.heap.size, 0, none⟩ = some (.int .i64 2) := by rw [← HK.out]; exact (B4.cell 0).trans x.a0
  have i0 : w4.cell? ⟨w.heap.size, 0, none⟩ = some (.slice A n c) := HBA.out.cell 0
  have i1 : w4.cell? ⟨w.heap.size, 1, none⟩ = some (.slice B m d) := HBA.out.cell 1
  clear hw4 B4 hx3 hx4 hs4 j0 j1
  obtain ⟨z, hz⟩ : ∃ z, z = ith x.kids i := ⟨_, rfl⟩
  rw [← hz] at HII
  have HZ := Lib.hid hz
  have hlt : (lv : Int) < 10 := by omega
  have c5 : w4.cell? ⟨w3.heap.size, 5 + i, none⟩ = some (.int .u64 z) := by rw [hz]; exact HB4.out.kidAt (by omega)
  clear hz
  go_upto_region 4 with (first
    | (refine wpList_store_nd (W := w3) (by rfl) _ _ (by rfl) (by rfl) x (by rfl) _ (by rfl) (by rfl) ?_; rw [← H4.out]))
  have s0 := fun q : Later w4 => q.ext.cellOf i0
  have s1 := fun q : Later w4 => q.ext.cellOf i1
  rcases (by omega : i = 0 ∨ i = 1 ∨ i = 2 ∨ i = 3) with rfl | rfl | rfl | rfl
  all_goals
    have s2 := fun q : Later w4 => q.ext.cellOf c5
    simp only [Nat.add_zero, Nat.reduceAdd] at s2
    clear k0 i0 i1 c5
    refine wp_region_pivot (C := fun w' => ∃ q : Later w4, w' = q.w) 10 _ rfl (by kernel_rfl) (by kernel_rfl) ⟨⟨w4.drew, (Ext.refl _).drew⟩, rfl⟩ ?_
    simp only [List.take_succ_cons, List.take_zero]
    repeat (go_big_quiet_step (first | (go_at_call 43; exact later_call (fun W hW => HD.out W))))
    refine wpQuiet_nil ?_
    rintro _ ⟨q1, rfl⟩ K hK
    clear s0 s1 s2
    go_simp
    refine (HII.out q1.w (X4.out.step q1.ext)).mono ?_
    rintro e w6 ⟨A6, n6, c6, rfl, hs6, hx6⟩
    refine hK _ _ ⟨fun w' => ∃ q : Later w6, w' = q.w, ⟨⟨w6, Ext.refl _⟩, rfl⟩, ?_⟩
    simp only [List.drop_succ_cons, List.drop_zero]
    repeat (go_big_quiet_step (fail))
    refine wpQuiet_nil ?_
    rintro _ ⟨q2, rfl⟩
    go_wp2_with fail
    go_ret
    exact ⟨A6, n6, c6, rfl, ⟨(hs6.1.base (X4.out.step q1.ext).size).to q2.ext, fun hl => own_ext (own_low (hs6.2 hl) (X4.out.step q1.ext).size) q2.ext⟩, (X4.out.step q1.ext).step (hx6.step q2.ext)⟩

end Go.Proofs.Ytfoifcbaadnigaa
