/-
  Contract of the document's Build: an arena with the map of a row.
-/
import Derived.Test.YthgaogbpkedjcaaRfLay
import Derived.Test.YthgaogbpkedjcaaRowX
import Derived.Test.YthgaogbpkedjcaaGC
set_option linter.unusedVariables false
set_option linter.unusedSimpArgs false
namespace Go.Proofs.Ythgaogbpkedjcaa
open Go.RowKit

theorem run_append_y {P : Program} (w : World) (t ty e : TypeId) (i : TypeInfo) (z : Value) (size bytes : Nat) (ht : P.underlying t = some (.slice e)) (hi : P.info? e = some i) (hz : i.zero = some z)
    (hsize : i.size = size) (hby : i.bytes = bytes) (hzs : z.cells.size = size) (hsz : 0 < size) (base : Nat) (ex : List Nat) (v : Value) (n : Nat) (xs : List Value) (hr : RowX w base ex e size v n xs)
    (A : Option Addr) (m c : Nat) (news : List Value) (hn : Rd w size A m news) (h1 : ∀ u ∈ news, u.oneCell' = true) (h63 : n + m ≤ maxLen) (hbytes : (n + m) * bytes ≤ 140737488355328) (hbase : base ≤ w.heap.size) (hex : ∀ b ∈ ex, b < w.heap.size) :
    ∃ A' c' w', (Builtin.append_ #[t, t] ty #[v, .slice A m c]).run P w = .ok (.slice A' (n + m : Nat) c') w' ∧ RowX w' base ex e size (.slice A' (n + m : Nat) c') (n + m) (xs ++ news) ∧ ∃ r, w.grownBy w' r ∧ (∀ b ∈ ex, r ≠ some b) ∧ ∀ k, r = some k → base ≤ k := by
  rcases hr.row with ⟨hown, hap⟩ | ⟨rfl, rfl, q, rfl⟩
  · obtain ⟨v', w', hrun, h2, h3, h4⟩ := run_append_rd (P := P) w base t ty e i z size bytes ht hi hz hsize hby hzs hsz v n xs hown A m c news hn h1 h63 hbytes hbase
    obtain ⟨A', c', rfl⟩ := own_slice h2
    refine ⟨A', c', w', hrun, ⟨.inl ⟨h2, fun k hk hm => ?_⟩⟩, _, h3, fun b hb e => hap _ e hb, fun k hk => (hown.lt k hk).1⟩
    rcases h4 with e | e
    · exact hap k (by rw [← e]; exact hk) hm
    · rw [e] at hk
      injection hk with hk
      have := hex k hm
      omega
  · obtain ⟨A', c', w', hrun, h2, h3⟩ := run_append_new (P := P) w t ty e i z size bytes ht hi hz hsize hby hzs hsz q A m c news hn h1 (by omega) (by simpa using hbytes)
    refine ⟨A', c', w', by simpa using hrun, ⟨?_⟩, none, ⟨h3.os, h3.tape, h3.output, h3.size, fun k hk _ => h3.block k hk⟩, (by intro b _; simp), (by intro k hk; cases hk)⟩
    rcases h2 with h2 | ⟨rfl, rfl, q', hq'⟩
    · refine .inl ⟨by simpa using own_base h2 hbase, fun k hk hm => ?_⟩
      have hk' : (Value.slice A' m c').ownBlock = some k := by simpa using hk
      have := (h2.lt k hk').1
      have := hex k hm
      omega
    · exact .inr ⟨rfl, rfl, q', by simpa using hq'⟩

theorem wpList_append_y {P : Program} (w : World) {ops : Array Oper} {rest : List Oper} {o : Oper} {a : Act} {Q : Exit → Act → World → Prop} (hgd : o.guard = none) (s x : Operand) (t : TypeId)
    (ho : o.op = .call { callee := .builtin .append, args := #[s, x], argTypes := #[t, t] })
    (e : TypeId) (i : TypeInfo) (z : Value) (size bytes : Nat) (ht : P.underlying t = some (.slice e)) (hi : P.info? e = some i) (hz : i.zero = some z)
    (hsize : i.size = size) (hby : i.bytes = bytes) (hzs : z.cells.size = size) (hsz : 0 < size) (base : Nat) (ex : List Nat)
    (v : Value) (n : Nat) (xs : List Value) (hs : a.eval s = v) (hr : RowX w base ex e size v n xs)
    (A : Option Addr) (m c : Nat) (news : List Value) (hx : a.eval x = .slice A m c) (hn : Rd w size A m news) (h1 : ∀ u ∈ news, u.oneCell' = true)
    (h63 : n + m ≤ maxLen) (hbytes : (n + m) * bytes ≤ 140737488355328) (hbase : base ≤ w.heap.size) (hex : ∀ b ∈ ex, b < w.heap.size)
    (h : ∀ A' c' w' r, RowX w' base ex e size (.slice A' (n + m : Nat) c') (n + m) (xs ++ news) → w.grownBy w' r → (∀ b ∈ ex, r ≠ some b) → (∀ k, r = some k → base ≤ k) → wpList P ops Q rest (a.put o.dst (.slice A' (n + m : Nat) c')) w') :
    wpList P ops Q (o :: rest) a w := by
  refine wpList_plain hgd fun K hK => ?_
  obtain ⟨A', c', w', hrun, h2, r, h3, h4, h5⟩ := run_append_y (P := P) w t o.type e i z size bytes ht hi hz hsize hby hzs hsz base ex v n xs hr A m c news hn h1 h63 hbytes hbase hex
  unfold Oper.wp execOp
  simp only [ho, resolve, invoke, builtin, Sem.run_bind, Sem.run_pure, Result.andThen_ok, List.map_toArray, List.map_cons, List.map_nil, hs, hx, hrun]
  exact hK _ _ (h A' c' w' r h2 h3 h4 h5)
theorem OwnN.grown {W W' : World} {g : Nat} {ns : List Nd} {r : Option Nat} (h : OwnN W g ns) (hg : W.grownBy W' r) (hr : r ≠ some g) : OwnN W' g ns := by
  have e := hg.block g h.lt (fun e => hr e.symm)
  refine ⟨Nat.lt_of_lt_of_le h.lt hg.size, fun i x hx j hj => (World.cell?_of_block (a := ⟨g, i * 16 + j, none⟩) e).trans (h.cell i x hx j hj), fun j => by
    have := h.free j
    unfold World.frozen? at this ⊢
    rw [e]
    exact this⟩
theorem Ext.grown {w W W' : World} {r : Option Nat} (h : Ext w W) (hg : W.grownBy W' r) (hr : ∀ k, r = some k → w.heap.size ≤ k) : Ext w W' :=
  ⟨hg.os.trans h.os, hg.tape.trans h.tape, hg.output.trans h.output, Nat.le_trans h.size hg.size, fun k hk => (hg.block k (Nat.lt_of_lt_of_le hk h.size) (fun e => by have := hr k e.symm; omega)).trans (h.block k hk)⟩

/-- In a world two slices are an arena with some free nodes at least, and a reference the map of a row. -/
def SmF (W : World) (x y : Value) (z : Int) (l : Row) (q : Nat) : Prop :=
  ∃ (A : Option Addr) (n c : Nat) (B : Option Addr) (m d : Nat) (ns : List Nd) (fs : List Int) (t : T), x = .slice A n c ∧ y = .slice B m d ∧ Ar W A n B m ns fs ∧ ArMay ns fs ∧ Mp ns t ∧ t.ref = z ∧ t.row = l ∧ U z ∧ q ≤ fs.length
/-- What Build answers. -/
def BuildA (n : Nat) (l : Row) (w : World) (e : Ending) (w' : World) : Prop :=
  ∃ (A : Option Addr) (k c : Nat) (B : Option Addr) (m d : Nat) (z : Int), e = .returned (.tuple #[.agg #[.slice A k c, .slice B m d], .int .u64 z]) ∧ SmF w' (.slice A k c) (.slice B m d) z l (n - l.length) ∧ Ext w w'

set_option maxHeartbeats 6400000 in
set_option maxRecDepth 100000 in
theorem build_is (n m : Nat) (l : Row) (L : Option Addr) (cL : Nat) (w : World) (h1 : 1 ≤ n) (h2 : n ≤ 512) (hlm : l.length = m) (hmn : m ≤ n) (hm : m ≤ 200) (hmc : m ≤ cL) (hcL : cL ≤ maxLen) (hL : RdI w L m l) (hs : Srt l) :
    Calls Try.prog 20 #[.int .i64 n, .slice L m cL] w (BuildA n l w) := by
  obtain ⟨i0, hi0, hz0, hz1, hz2⟩ := info_parts int_info
  obtain ⟨i1, hi1, hy0, hy1, hy2⟩ := info_parts node_info
  obtain ⟨w1, hw1⟩ : ∃ w1, w1 = w.alloc (.cells #[.slice none 0 0, .slice none 0 0] 25) := ⟨_, rfl⟩
  obtain ⟨B1, hx1, hs1⟩ := box_made hw1
  have H1 := Lib.hid hw1
  have HB1 := Lib.hid B1
  have X1 := Lib.hid hx1
  have HS1 := Lib.hid hs1
  have HL := Lib.hid hL
  have HLG := Lib.hid (show m = 0 ∨ ∀ q, L = some q → q.block < w.heap.size by
    rcases Nat.eq_zero_or_pos m with h0 | h0
    · exact .inl h0
    · right
      intro q hq
      obtain ⟨x, hx⟩ : ∃ x, l[0]? = some x := ⟨_, List.getElem?_eq_getElem (by omega)⟩
      obtain ⟨ad, ha, hit⟩ := hL.item hx
      rw [hq] at ha
      injection ha with ha
      subst ha
      have := World.block_lt_of_cell? w _ hit.1
      rwa [addr_block] at this)
  have HSRT := Lib.hid hs
  have HLM := Lib.hid hlm
  have HCL := Lib.hid hcL
  have HMC := Lib.hid hmc
  clear hw1 B1 hx1 hs1 hL hs hlm hcL hmc
  go_enter Try.func20, Try.ntmps20
  go_wp2_with (at_make
               rw [← H1.out]
               refine wpList_make_full w1 rfl _ _ 22 rfl w.heap.size 66 i1 _ 16 Try.underlying22 hi1 hy0 hy1 .i64 .i64 _ _ n rfl rfl rfl rfl (by rw [hy2]; omega) (by unfold maxLen; omega) (by have := X1.out.size; omega) ?_
               intro w2 hown hgr)
  rw [show (Value.agg #[.int .i64 0, .int .i64 0, .int .i64 0, .int .i64 0, .int .i64 0, .int .u64 0, .int .u64 0, .int .u64 0, .int .u64 0, .int .u64 0, .int .u64 0, .int .u64 0, .int .u64 0, .int .u64 0, .int .i64 0, .int .i64 0]) = .agg (bare 0).arr from rfl] at hown
  simp only [Value.cells] at hown
  rw [made_nodes] at hown
  obtain ⟨g, c, hv, hg, hO⟩ := OwnN.of_own hown (by omega)
  obtain ⟨rfl, _⟩ : g = w1.heap.size ∧ c = n := by
    injection hv with h1 _ h2
    injection h1 with h1
    injection h1 with h1
    exact ⟨h1.symm, h2.symm⟩
  have X2 : Ext w1 w2 := ⟨hgr.os, hgr.tape, hgr.output, hgr.size, fun k hk => hgr.block k hk (by simp)⟩
  obtain ⟨w3, hw3⟩ : ∃ w3, w3 = w2.alloc (.cells #[.slice (some ⟨w1.heap.size, 0, none⟩) n n, .slice none 0 0] 25) := ⟨_, rfl⟩
  obtain ⟨B3, hx3, hs3⟩ := box_made hw3
  obtain ⟨g, hgq⟩ : ∃ g, g = w1.heap.size := ⟨_, rfl⟩
  obtain ⟨b, hbq⟩ : ∃ b, b = w2.heap.size := ⟨_, rfl⟩
  rw [← hgq] at hO B3 hw3 ⊢
  rw [← hbq] at B3
  have HGB := Lib.hid (show g = w.heap.size + 1 ∧ g < b ∧ b < w3.heap.size from ⟨by have := HS1.out; omega, by have := hO.lt; omega, B3.lt⟩)
  have H3 := Lib.hid hw3
  have Hb := Lib.hid hbq
  have HB3 := Lib.hid B3
  have X3 := Lib.hid (X1.out.step (X2.step hx3))
  have HBr := Lib.hid (HB1.out.to (X2.step hx3))
  have hg1 := HGB.out
  have HLY := Lib.hid (lay_is g n n none 0 0 h2 m l 0 (List.replicate n (bare 0)) L cL w3 HLM.out (by omega) HMC.out HCL.out (HL.out.to X3.out) (HLG.out.imp id (fun h0 q hq => by have := h0 q hq; omega)) HSRT.out (hO.to hx3) (by simp) (by omega))
  have k0 : w3.cell? ⟨b, 0, none⟩ = some (.slice (some ⟨g, 0, none⟩) n n) := B3.cell 0
  have k1 : w3.cell? ⟨b, 1, none⟩ = some (.slice none 0 0) := B3.cell 1
  clear hown hgr hv hg hO X2 hw3 B3 hx3 hs3 hgq hbq hg1
  go_wp2_with fail
  rw [← H3.out, ← Hb.out]
  go_wp2_with fail
  refine HLY.out.mono ?_
  rintro e w4 ⟨ns', z, rfl, hO4, ho4, hLd⟩
  have HO4 := Lib.hid hO4
  have HB4 := Lib.hid (ho4.bx HB3.out (by have := HGB.out; omega))
  have HBr4 := Lib.hid (ho4.bx HBr.out (by have := HGB.out; omega))
  have X4 := Lib.hid (ho4.new X3.out (by have := HGB.out; omega))
  have HLd := Lib.hid hLd
  have HS4 := Lib.hid (show w3.heap.size ≤ w4.heap.size from ho4.size)
  have e0 : IntKind.i64.wrap ((n : Int) - 1) = (n : Int) - 1 := by rw [IntKind.wrap_i64]; omega
  clear hO4 ho4 hLd k0 k1
  go_wp2_with fail
  go_loopw [8] (fun j wr => Hid (Ext w wr) ∧ ∃ (k : Nat) (v : Value), m ≤ k ∧ k ≤ n ∧ j = .int .i64 ((k : Int) - 1) ∧ Hid (Bx wr b #[.slice (some ⟨g, 0, none⟩) n n, v]) ∧ Hid (Bx wr w.heap.size #[.slice none 0 0, .slice none 0 0]) ∧ Hid (OwnN wr g ns') ∧ Hid (RowX wr w.heap.size [b, g, w.heap.size] 3 1 v (n - k) (Ks .i64 (downTo n k)))) (fun j _ => (intOf j + 1).toNat)
  case atStart => exact ⟨X4, n, _, hmn, Nat.le_refl _, rfl, HB4, HBr4, HO4, Lib.hid (by rw [downTo_self, Nat.sub_self]; exact RowX.nil0 _ _ _ _ _)⟩
  case round =>
    obtain ⟨hx, k, v, hk1, hk2, rfl, hB, hBr, hO, hR⟩ := hrel
    rename World => w5
    by_cases hlt : m < k
    · obtain ⟨q, rfl⟩ : ∃ q, k = q + 1 := ⟨k - 1, by omega⟩
      have eq : ((q + 1 : Nat) : Int) - 1 = (q : Int) := by omega
      have eq1 : IntKind.i64.wrap ((q : Int) - 1) = (q : Int) - 1 := by rw [IntKind.wrap_i64]; omega
      have hmq : m ≤ q := by omega
      obtain ⟨A, cA, hv, _, _⟩ := hR.out.slice
      subst hv
      have c1 : w5.cell? ⟨b, 1, none⟩ = some (.slice A (n - (q + 1)) cA) := hB.out.cell 1
      obtain ⟨w6, hw6⟩ : ∃ w6, w6 = w5.alloc (.cells #[.int .i64 q] 3) := ⟨_, rfl⟩
      obtain ⟨B6, hx6, hs6⟩ := box_made hw6
      have H6 := Lib.hid hw6
      have HR6 := Lib.hid (show Rd w6 1 (some ⟨w5.heap.size, 0, none⟩) 1 (Ks .i64 [(q : Int)]) by rw [hw6]; exact Rd.lit w5 #[.int .i64 q] 3 1 rfl)
      have HX6 := Lib.hid (hR.out.to hx6)
      have HB6 := Lib.hid (hB.out.to hx6)
      have HBr6 := Lib.hid (hBr.out.to hx6)
      have HO6 := Lib.hid (hO.out.to hx6)
      have X6 := Lib.hid (hx.out.step hx6)
      have HGB' := HGB.out
      have HS4' := HS4.out
      have hlt6 := Lib.hid (show ∀ j ∈ [b, g, w.heap.size], j < w6.heap.size by
        intro j hj
        simp at hj
        have h1 := HB6.out.lt
        rcases hj with rfl | rfl | rfl <;> omega)
      clear hw6 B6 hx6 hs6 hB hBr hO hR hx HGB' HS4'
      rw [eq]
      go_wp2_with (first
        | (at_builtin
           rw [← H6.out]
           refine wpList_append_y _ rfl (.tmp 24) (.tmp 26) _ rfl 3 i0 _ 1 8 Try.underlying23 hi0 hz0 hz1 hz2 rfl (by omega) w.heap.size [b, g, w.heap.size] _ (n - (q + 1)) (Ks .i64 (downTo n (q + 1))) rfl HX6.out (some ⟨w5.heap.size, 0, none⟩) 1 1 (Ks .i64 [(q : Int)]) rfl HR6.out (Ks_one _ _) (by simp only [maxLen]; omega) (by omega) X6.out.size hlt6.out ?_
           intro A7 c7 w7 r7 hr7 hg7 hn7 hb7
           have HB7 := Lib.hid (HB6.out.grown hg7 (hn7 b (by simp)))
           have HBr7 := Lib.hid (HBr6.out.grown hg7 (hn7 w.heap.size (by simp)))
           have HO7 := Lib.hid (HO6.out.grown hg7 (hn7 g (by simp)))
           have X7 := Lib.hid (X6.out.grown hg7 hb7)
           have HR7 := Lib.hid hr7
           clear hr7 hg7 hn7 hb7)
        | (refine wpList_store_cell (by rfl) 23 (.tmp 28) (.tmp 27) (by rfl) b 1 (by rfl) (.slice A7 (n - (q + 1) + 1 : Nat) c7) (by rfl) rfl (by kernel_rfl) _ HB7.out (by simp) ?_
           intro w8 B8 O8))
      go_roundw
      case rel => 
        have hGB := HGB.out
        refine ⟨Lib.hid (O8.new X7.out (by omega)), q, .slice A7 (n - (q + 1) + 1 : Nat) c7, hmq, by omega, rfl, Lib.hid B8, Lib.hid (O8.bx HBr7.out (by omega)), Lib.hid (HO7.out.only O8 (by omega)), Lib.hid ?_⟩
        have h0 := HR7.out.only O8 (by simp)
        rw [show n - (q + 1) + 1 = n - q by omega] at h0 ⊢
        rw [← downTo_succ (show q < n by omega)]
        simpa [Ks] using h0
      case measure => simp [intOf]
    · obtain rfl : k = m := by omega
      obtain ⟨A, cA, hv, hc1, hc2⟩ := hR.out.slice
      subst hv
      have c0 : w5.cell? ⟨b, 0, none⟩ = some (.slice (some ⟨g, 0, none⟩) n n) := hB.out.cell 0
      have c1 : w5.cell? ⟨b, 1, none⟩ = some (.slice A (n - k) cA) := hB.out.cell 1
      have hge : ¬ ((k : Int) ≤ (k : Int) - 1) := by omega
      have hBr' := hBr.out
      have HX := Lib.hid hx.out
      go_wp2_with (first
        | (refine wpList_store_ar (by rfl) (.tmp 4) (.tmp 29) (by rfl) w.heap.size (by rfl) (.slice (some ⟨g, 0, none⟩) n n) (.slice A (n - k) cA) (by rfl) rfl rfl _ hBr' (by simp) ?_
           intro w8 B8 O8))
      refine bodyPost_ret (results_ar2 rfl _ _ w.heap.size #[.slice (some ⟨g, 0, none⟩) n n, .slice A (n - k) cA] (by rfl) B8 rfl) rfl ?_
      have hGB := HGB.out
      obtain ⟨t, ht1, ht2, ht3⟩ := laid_map HLd.out HSRT.out (by rw [HLM.out]; exact hm)
      refine ⟨some ⟨g, 0, none⟩, n, n, A, n - k, cA, z, rfl, ⟨_, _, _, _, _, _, ns', downTo n l.length, t, rfl, rfl, ⟨(hO.out.only O8 (by omega)).rd (by rw [HLd.out.len]; simp), ?_, laid_ok HLd.out⟩, laid_may HLd.out h1 h2 (by rw [HLM.out]; exact hmn), ht1, ht2, ht3, HLd.out.u, by rw [downTo_len]; exact Nat.le_refl _⟩, O8.new HX.out (Nat.le_refl _)⟩
      have h0 := hR.out.only O8 (by simp)
      rw [HLM.out]
      exact h0.rd

end Go.Proofs.Ythgaogbpkedjcaa
