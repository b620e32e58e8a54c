/-
  Contract of the document's Lay: a row is laid as a table from a place on.
-/
import Derived.Test.YtfoifcbaadnigaaHlMath
import Derived.Test.YtfoifcbaadnigaaRfOfN
import Derived.Test.YtfoifcbaadnigaaAnyG
import Derived.Test.YtfoifcbaadnigaaGF
import Derived.Test.YtfoifcbaadnigaaHtIs
set_option linter.unusedVariables false
set_option linter.unusedSimpArgs false
namespace Go.Proofs.Ytfoifcbaadnigaa
open Go.RowKit

/-! ### What is laid, as a value of four cells -/
theorem loadT4 {w : World} {b : Nat} {cs : Array Value} (h : Bx w b cs) (hc : cs.size = 4) : (loadVar 76 ⟨b, 0, none⟩).run Try.prog w = .ok (.agg cs) w := by
  have hi : (Try.prog.info? 76).map (·.size) = some 4 := by kernel_rfl
  exact run_loadVar_any (P := Try.prog) w ⟨b, 0, none⟩ 76 cs _ (fun j v hv => by rw [addr_zero, h.cell j]; exact hv) Try.underlying76 rfl (by rw [hc]; exact hi)
theorem loadT4i {w : World} {b : Nat} {cs : Array Value} (h : Bx w b cs) (hc : cs.size = 4) : (Instr.loadAt 76 (.pointer (some ⟨b, 0, none⟩))).run Try.prog w = .ok (.agg cs) w := by
  simp only [Instr.loadAt, Instr.sureAddr, Sem.run_bind, Sem.run_pure, Result.andThen_ok]
  exact loadT4 h hc
theorem results_T4 {fn : Func} {p : Tmp} (h : fn.results = #[.cell p 76]) (tmps : Array Value) (w : World) (b : Nat) (cs : Array Value) (hp : tmps.getD p undef = .pointer (some ⟨b, 0, none⟩)) (hB : Bx w b cs) (hc : cs.size = 4) :
    (results fn tmps).run Try.prog w = .ok (.agg cs) w := by
  have hp' : tmps[p]?.getD undef = .pointer (some ⟨b, 0, none⟩) := by simpa using hp
  simp [results, h, hp', asAddr, loadT4 hB hc]
theorem wpList_store_T4 {ops : Array Oper} {rest : List Oper} {o : Oper} {a : Act} {w : World} {Q : Exit → Act → World → Prop} (hgd : Region.wanted o (yielded ops a.tmps) = true) (x y : Operand) (ho : o.op = .store 76 x y)
    (b : Nat) (hx : a.eval x = .pointer (some ⟨b, 0, none⟩)) (ds : Array Value) (hy : a.eval y = .agg ds) (hd : ds.size = 4) (h1 : ds.all (·.oneCell') = true) (cs : Array Value) (hB : Bx w b cs) (hc : cs.size = 4)
    (h : ∀ W, Bx W b ds → Only b w W → wpList Try.prog ops Q rest (a.put o.dst undef) W) : wpList Try.prog ops Q (o :: rest) a w := by
  have ht : w.there b 0 ds.size := fun j hj => by
    rw [Nat.zero_add]
    refine ⟨?_, hB.free j⟩
    rw [hB.cell j, Array.getElem?_eq_getElem (by omega)]; rfl
  exact Go.BigFrame.wpList_want hgd fun K hK => by
    unfold Oper.wp execOp
    simp only [ho, hx, hy, Sem.run_bind, run_storeAt_mid (P := Try.prog) w b 0 76 ds ht (by rw [hd]; kernel_rfl) h1, Sem.run_pure, Result.andThen_ok]
    exact hK _ _ (h _ (hB.stored (by omega)) (setCells_only b _ 0 w w (Only.refl b w)))
theorem wp_store_T4 {o : Oper} {a : Act} {w : World} {K : Act → World → Prop} {Q : Exit → Act → World → Prop} (x y : Operand) (ho : o.op = .store 76 x y)
    (b : Nat) (hx : a.eval x = .pointer (some ⟨b, 0, none⟩)) (ds : Array Value) (hy : a.eval y = .agg ds) (hd : ds.size = 4) (h1 : ds.all (·.oneCell') = true) (cs : Array Value) (hB : Bx w b cs) (hc : cs.size = 4)
    (h : ∀ W, Bx W b ds → Only b w W → K (a.put o.dst undef) W) : Oper.wp Try.prog o a w K Q := by
  have ht : w.there b 0 ds.size := fun j hj => by
    rw [Nat.zero_add]
    refine ⟨?_, hB.free j⟩
    rw [hB.cell j, Array.getElem?_eq_getElem (by omega)]; rfl
  unfold Oper.wp execOp
  simp only [ho, hx, hy, Sem.run_bind, run_storeAt_mid (P := Try.prog) w b 0 76 ds ht (by rw [hd]; kernel_rfl) h1, Sem.run_pure, Result.andThen_ok]
  exact h _ (hB.stored (by omega)) (setCells_only b _ 0 w w (Only.refl b w))
/-- A store into a block that is newer than w. -/
theorem Only.new_too {b b' : Nat} {w W W' : World} (h : Only b w W) (ho : Only b' W W') (hb : w.heap.size ≤ b') : Only b w W' :=
  ⟨ho.os.trans h.os, ho.tape.trans h.tape, ho.output.trans h.output, Nat.le_trans h.size ho.size, fun k hk hn => (ho.block k (Nat.lt_of_lt_of_le hk h.size) (fun e => by injection e with e; omega)).trans (h.block k hk hn)⟩

/-- What Lay does. -/
def LayT (g n c : Nat) (Bz : Option Addr) (mz dz : Nat) (ns : List Nd) (p lv : Nat) (l : Row) (w : World) (e : Ending) (w' : World) : Prop :=
  ∃ (ns' : List Nd) (z : Int) (cnt : Nat), e = .returned (.agg #[.slice (some ⟨g, 0, none⟩) n c, .slice Bz mz dz, .int .i64 ((p + cnt : Nat) : Int), .int .u64 z]) ∧ OwnN w' g ns' ∧ Only g w w' ∧ LaidH ns ns' p cnt lv l z

set_option maxHeartbeats 3200000 in
set_option maxRecDepth 100000 in
theorem lay9_nil (g n c : Nat) (Bz : Option Addr) (mz dz : Nat) (ns : List Nd) (p lv : Nat) (r0 : Int) (L : Option Addr) (cL : Nat) (w : World) (hO : OwnN w g ns) :
    Calls Try.prog 32 #[.agg #[.slice (some ⟨g, 0, none⟩) n c, .slice Bz mz dz, .int .i64 p, .int .u64 r0], .slice L 0 cL, .int .i64 lv] w (LayT g n c Bz mz dz ns p lv [] w) := by
  obtain ⟨T0, hT0⟩ : ∃ T0 : Array Value, T0 = #[.slice (some ⟨g, 0, none⟩) n c, .slice Bz mz dz, .int .i64 p, .int .u64 0] := ⟨_, rfl⟩
  have hx : Ext w ((w.alloc (.cells T0 76)).alloc (.cells T0 76)) := ((Ext.refl w).new _).new _
  have hB := Bx.new (w.alloc (.cells T0 76)) T0 76
  rw [show (w.alloc (.cells T0 76)).heap.size = w.heap.size + 1 by simp] at hB
  rw [hT0] at hx hB
  have HX := Lib.hid hx
  have HB := Lib.hid hB
  clear hx hB hT0
  go_enter Try.func32, Try.ntmps32
  go_wp2_with fail
  refine bodyPost_ret (results_T4 rfl _ _ (w.heap.size + 1) _ (by rfl) HB.out rfl) rfl ?_
  exact ⟨ns, 0, 0, rfl, hO.to HX.out, (Only.refl g w).ext HX.out, laidH_nil ns p lv⟩

set_option maxHeartbeats 3200000 in
set_option maxRecDepth 100000 in
theorem lay9_one (g n c : Nat) (Bz : Option Addr) (mz dz : Nat) (ns : List Nd) (p lv : Nat) (r0 : Int) (x : Int × Int) (L : Option Addr) (cL : Nat) (w : World) (hO : OwnN w g ns) (hL : RdI w L 1 [x]) (hns : ns.length = n) (hn : n ≤ 512) (hp : p < n) :
    Calls Try.prog 32 #[.agg #[.slice (some ⟨g, 0, none⟩) n c, .slice Bz mz dz, .int .i64 p, .int .u64 r0], .slice L 1 cL, .int .i64 lv] w (LayT g n c Bz mz dz ns p lv [x] w) := by
  obtain ⟨k, v⟩ := x
  obtain ⟨w1, hw1⟩ : ∃ w1, w1 = w.alloc (.cells #[.slice (some ⟨g, 0, none⟩) n c, .slice Bz mz dz, .int .i64 p, .int .u64 0] 76) := ⟨_, rfl⟩
  obtain ⟨B1, hx1, hs1⟩ := box_made hw1
  obtain ⟨w2, hw2⟩ : ∃ w2, w2 = w1.alloc (.cells #[.slice none 0 0, .slice none 0 0, .int .i64 0, .int .u64 0] 76) := ⟨_, rfl⟩
  obtain ⟨B2, hx2, hs2⟩ := box_made hw2
  obtain ⟨bt, hbt⟩ : ∃ b, b = w.heap.size := ⟨_, rfl⟩
  obtain ⟨br, hbr⟩ : ∃ b, b = w.heap.size + 1 := ⟨_, rfl⟩
  rw [hs1, ← hbr] at B2
  rw [← hbt] at B1
  have H1 := Lib.hid hw1
  have H2 := Lib.hid hw2
  have Hbt := Lib.hid hbt
  have Hbr := Lib.hid hbr
  have HB1 := Lib.hid (B1.to hx2)
  have HB2 := Lib.hid B2
  have X2 := Lib.hid (hx1.step hx2)
  have HO2 := Lib.hid (hO.to X2.out)
  have HNE := Lib.hid (show g < bt ∧ bt < br ∧ w.heap.size ≤ bt from by have := hO.lt; omega)
  obtain ⟨ad, rfl, hit⟩ := hL.item (k := 0) (x := (k, v)) rfl
  have e0 : ad.add 0 = ad := by unfold Addr.add; simp
  rw [Nat.zero_mul, e0] at hit
  have HIT := Lib.hid (hit.to X2.out)
  have hpn := hp
  have hpl : p < ns.length := by omega
  have hnp : ¬ n ≤ p := by omega
  have hp0 : ¬ ((p : Int) < 0) := by omega
  clear hw1 hw2 B1 B2 hx1 hx2 hs1 hs2 hbt hbr hO hL hit e0
  go_enter Try.func32, Try.ntmps32
  go_upto_region 5 with fail
  rw [← H1.out, ← H2.out, ← Hbr.out, ← Hbt.out]
  have s0 : ∀ q : Later w2, q.w.cell? ⟨bt, 0, none⟩ = some (.slice (some ⟨g, 0, none⟩) n c) := fun q => (HB1.out.to q.ext).cell 0
  have s2 : ∀ q : Later w2, q.w.cell? ⟨bt, 2, none⟩ = some (.int .i64 p) := fun q => (HB1.out.to q.ext).cell 2
  have t0 : ∀ q : Later w2, q.w.cell? ad = some (.int .i64 k) := fun q => (HIT.out.to q.ext).1
  have t1 : ∀ q : Later w2, q.w.cell? { block := ad.block, off := ad.off + 1 } = some (.int .i64 v) := fun q => (HIT.out.to q.ext).2
  refine wp_region_later_tail 15 w2 (Ext.refl _) (by kernel_rfl) (by kernel_rfl) ?_
  simp only [List.take_succ_cons, List.take_zero, List.drop_succ_cons, List.drop_zero]
  repeat (go_big_quiet_step (fail))
  refine wpQuiet_nil ?_
  rintro _ ⟨q, rfl⟩
  clear s0 s2 t0 t1
  have HOq := Lib.hid (HO2.out.to q.ext)
  have HB1q := Lib.hid (HB1.out.to q.ext)
  have HB2q := Lib.hid (HB2.out.to q.ext)
  have Xq := Lib.hid (X2.out.step q.ext)
  go_wp2_with (first
    | (refine wpList_store_in (by rfl) _ _ (by rfl) g p (by rfl) (leafNd 0 k v) (by rfl) ns HOq.out hpl ?_
       intro w3 N3 O3
       have HN3 := Lib.hid N3
       have HB3 := Lib.hid (O3.bx HB1q.out (by have := HNE.out; omega))
       have HR3 := Lib.hid (O3.bx HB2q.out (by have := HNE.out; omega))
       have X3 := Lib.hid (((Only.refl g w).ext Xq.out).trans O3)
       have k2 : w3.cell? ⟨bt, 2, none⟩ = some (.int .i64 p) := HB3.out.cell 2
       clear N3 O3)
    | (refine wpList_store_cell (by rfl) 3 (.tmp 39) (.tmp 38) (by rfl) bt 2 (by rfl) (.int .i64 ((p : Int) + 1)) (by rfl) rfl (by kernel_rfl) _ HB3.out (by simp) ?_
       intro w4 B4 O4
       have HB4 := Lib.hid (show Bx w4 bt #[.slice (some ⟨g, 0, none⟩) n c, .slice Bz mz dz, .int .i64 ((p : Int) + 1), .int .u64 0] from B4)
       have HN4 := Lib.hid (HN3.out.only O4 (by have := HNE.out; omega))
       have HR4 := Lib.hid (O4.bx HR3.out (by have := HNE.out; omega))
       have X4 := Lib.hid (X3.out.new_too O4 HNE.out.2.2)
       have k3 : w4.cell? ⟨bt, 2, none⟩ = some (.int .i64 ((p : Int) + 1)) := HB4.out.cell 2
       clear B4 O4 k2)
    | (refine wpList_store_cell (by rfl) 31 (.tmp 43) (.tmp 42) (by rfl) bt 3 (by rfl) (.int .u64 ((p : Int) + 1)) (by rfl) rfl (by kernel_rfl) _ HB4.out (by simp) ?_
       intro w5 B5 O5
       have HB5 := Lib.hid (show Bx w5 bt #[.slice (some ⟨g, 0, none⟩) n c, .slice Bz mz dz, .int .i64 ((p : Int) + 1), .int .u64 ((p : Int) + 1)] from B5)
       have HN5 := Lib.hid (HN4.out.only O5 (by have := HNE.out; omega))
       have HR5 := Lib.hid (O5.bx HR4.out (by have := HNE.out; omega))
       have X5 := Lib.hid (X4.out.new_too O5 HNE.out.2.2)
       clear B5 O5 k3)
    | (refine wpList_load_agg 76 (by rfl) (.tmp 3) (by rfl) _ (by rfl) _ (loadT4i HB5.out rfl) ?_)
    | (refine wpList_store_T4 (by rfl) (.tmp 6) (.tmp 44) (by rfl) br (by rfl) #[.slice (some ⟨g, 0, none⟩) n c, .slice Bz mz dz, .int .i64 ((p : Int) + 1), .int .u64 ((p : Int) + 1)] (by rfl) rfl (by simp [Value.oneCell']) _ HR5.out rfl ?_
       intro w6 B6 O6
       have HN6 := Lib.hid (HN5.out.only O6 (by have := HNE.out; omega))
       have X6 := Lib.hid (X5.out.new_too O6 (by have := HNE.out; omega))))
  refine bodyPost_ret (results_T4 rfl _ _ br _ (by rfl) B6 rfl) rfl ?_
  exact ⟨ns.set p (leafNd 0 k v), ((p + 1 : Nat) : Int), 1, rfl, HN6.out, X6.out, laidH_leaf hpl (by omega) lv k v⟩

theorem box_kidz (k g s z : Int) {zs : List Int} (h : zs.length ≤ 3) : (boxNd k g s zs).arr.setIfInBounds (5 + zs.length) (.int .u64 z) = (boxNd k g s (zs ++ [z])).arr := by
  match zs, h with
  | [], _ => rfl
  | [a], _ => rfl
  | [a, b], _ => rfl
  | [a, b, c], _ => rfl

theorem AnyT.one {P : Program} {ops : Array Oper} {md : Region.Mode} {S : World → Prop} {Q : Exit → Act → World → Prop} {n i : Nat} {o : Oper} {f : Nat} {li : Array Bool} {a : Act} {w : World} (hr : Region.ready md ops li = [i]) (hin : i ≠ n) (ho : ops[i]? = some o) (hw : Region.wanted o (yielded ops a.tmps) = true)
    (h : Oper.wp P o a w (fun a' w' => S w' ∧ AnyT P md ops Q S n f (li.setIfInBounds i true) a' w') Q) : AnyT P md ops Q S n (f + 1) li a w := by
  refine ⟨fun e => (by rw [hr] at e; cases e), fun j hj hjn => ?_, fun hn => ?_⟩
  · rw [hr] at hj
    obtain rfl : j = i := by simpa using hj
    exact wpOp_of_wp ho hw h
  · rw [hr] at hn
    exact absurd (by simpa using hn) (Ne.symm hin)
theorem RdI.past {w W : World} {g : Nat} {A : Option Addr} {n : Nat} {l : Row} (h : RdI w A n l) (ho : Only g w W) (hg : n = 0 ∨ ∀ q, A = some q → q.block ≠ g) : RdI W A n l := by
  rcases hg with rfl | hg
  · have hl := h.len
    obtain rfl : l = [] := List.eq_nil_of_length_eq_zero hl
    exact Rd.nil _ _ _
  · exact ho.rd h hg
/-- The contract at a level, over rows of a kind. -/
def LayO (P : Nat → Row → Prop) (lv : Nat) : Prop := ∀ (g n c : Nat) (Bz : Option Addr) (mz dz : Nat) (l : Row) (p : Nat) (r0 : Int) (ns : List Nd) (L : Option Addr) (m cL : Nat) (w : World), n ≤ 512 → l.length = m → m ≤ 1000 → m ≤ cL → cL ≤ maxLen → RdI w L m l → (m = 0 ∨ ∀ q, L = some q → q.block ≠ g) → P lv l → OwnN w g ns → ns.length = n → p + need lv l ≤ n →
    Calls Try.prog 32 #[.agg #[.slice (some ⟨g, 0, none⟩) n c, .slice Bz mz dz, .int .i64 p, .int .u64 r0], .slice L m cL, .int .i64 lv] w (LayT g n c Bz mz dz ns p lv l w)

set_option maxHeartbeats 12800000 in
set_option maxRecDepth 100000 in
theorem lay9_step (P : Nat → Row → Prop) (lv : Nat) (hlv : lv < 10) (hP : ∀ l, P lv l → ∀ i : Int, P (lv + 1) (ofD l lv i)) (rec : LayO P (lv + 1)) : LayO P lv := by
  intro g n c Bz mz dz l p r0 ns L m cL w hn hlm hm hmc hcL hL hLg hp hO hns hpn
  by_cases h0 : m = 0
  · subst h0
    obtain rfl : l = [] := List.eq_nil_of_length_eq_zero hlm
    exact lay9_nil g n c Bz mz dz ns p lv r0 L cL w hO
  by_cases h1 : m = 1
  · subst h1
    obtain ⟨x, rfl⟩ := List.length_eq_one_iff.1 hlm
    have hone : need lv [x] = 1 := by simp [need]
    exact lay9_one g n c Bz mz dz ns p lv r0 x L cL w hO hL hns hn (by omega)
  have h2 : 2 ≤ m := by omega
  obtain ⟨w1, hw1⟩ : ∃ w1, w1 = w.alloc (.cells #[.slice (some ⟨g, 0, none⟩) n c, .slice Bz mz dz, .int .i64 p, .int .u64 0] 76) := ⟨_, rfl⟩
  obtain ⟨B1, hx1, hs1⟩ := box_made hw1
  obtain ⟨w2, hw2⟩ : ∃ w2, w2 = w1.alloc (.cells #[.slice none 0 0, .slice none 0 0, .int .i64 0, .int .u64 0] 76) := ⟨_, rfl⟩
  obtain ⟨B2, hx2, hs2⟩ := box_made hw2
  obtain ⟨w3, hw3⟩ : ∃ w3, w3 = w2.alloc (.cells #[.int .i64 2, .int .i64 0, .int .i64 0, .int .i64 0, .int .i64 m, .int .u64 0, .int .u64 0, .int .u64 0, .int .u64 0, .int .u64 0, .int .u64 0, .int .u64 0, .int .u64 0, .int .u64 0, .int .i64 0, .int .i64 0] 68) := ⟨_, rfl⟩
  obtain ⟨B3, hx3, hs3⟩ := box_made hw3
  obtain ⟨bt, hbt⟩ : ∃ b, b = w.heap.size := ⟨_, rfl⟩
  obtain ⟨br, hbr⟩ : ∃ b, b = w.heap.size + 1 := ⟨_, rfl⟩
  obtain ⟨bn, hbn⟩ : ∃ b, b = w.heap.size + 1 + 1 := ⟨_, rfl⟩
  rw [hs2, hs1, ← hbn] at B3
  rw [hs1, ← hbr] at B2
  rw [← hbt] at B1
  have H1 := Lib.hid hw1
  have H2 := Lib.hid hw2
  have H3 := Lib.hid hw3
  have Hbt := Lib.hid hbt
  have Hbr := Lib.hid hbr
  have Hbn := Lib.hid hbn
  have HB1 := Lib.hid (B1.to (hx2.step hx3))
  have HB2 := Lib.hid (B2.to hx3)
  have HB3 := Lib.hid (show Bx w3 bn (boxNd 2 0 m []).arr from B3)
  have X3 := Lib.hid (hx1.step (hx2.step hx3))
  have HO3 := Lib.hid (hO.to X3.out)
  have HNE := Lib.hid (show g < bt ∧ bt < br ∧ br < bn ∧ w.heap.size ≤ bt from by have := hO.lt; omega)
  obtain ⟨adL, rfl⟩ := hL.some_ (by omega) (by omega)
  have HL := Lib.hid hL
  have HLG := Lib.hid hLg
  have HLM := Lib.hid hlm
  have HREC := Lib.hid rec
  have HP := Lib.hid (hP l hp)
  have HM := Lib.hid hm
  have HMC := Lib.hid hmc
  have HCL := Lib.hid hcL
  have HNS := Lib.hid hns
  have HPN := Lib.hid hpn
  have HN := Lib.hid hn
  have hm1000 := hm
  have hlv' : ¬ ((lv : Int) = 10) := by omega
  have hm0 : ¬ ((m : Int) = 0) := by omega
  have hm1 : ¬ ((m : Int) = 1) := by omega
  have hb0 : ((m : Int) == 0) = false := by simp; omega
  have hb1 : ((m : Int) == 1) = false := by simp; omega
  have hb2 : ((lv : Int) == 10) = false := by simp; omega
  clear hw1 hw2 hw3 B1 B2 B3 hx1 hx2 hx3 hs1 hs2 hs3 hbt hbr hbn hL hLg hlm rec hP hp hm hmc hcL hns hpn hO hn
  go_enter Try.func32, Try.ntmps32
  go_wp2_with fail
  rw [← H1.out, ← H2.out, ← H3.out, ← Hbn.out, ← Hbr.out, ← Hbt.out]
  clear hb0 hb1 hb2
  go_loopw [12] (fun j wr => Hid (Only g w wr) ∧ ∃ i : Int, j = .int .i64 i ∧ 0 ≤ i ∧ i ≤ 4 ∧ Hid (∃ (zs : List Int) (ns' : List Nd) (q : Nat) (r : Int), Ch lv l ns p i.toNat zs ns' q ∧ Bx wr bt #[.slice (some ⟨g, 0, none⟩) n c, .slice Bz mz dz, .int .i64 q, .int .u64 r] ∧ Bx wr br #[.slice none 0 0, .slice none 0 0, .int .i64 0, .int .u64 0] ∧ Bx wr bn (boxNd 2 0 m zs).arr ∧ OwnN wr g ns')) (fun j _ => (4 - intOf j).toNat)
  case atStart =>
    exact ⟨Lib.hid ((Only.refl g w).ext X3.out), 0, rfl, by omega, by omega, Lib.hid ⟨[], ns, p, 0, ⟨rfl, rfl, rfl⟩, HB1.out, HB2.out, HB3.out, HO3.out⟩⟩
  case round =>
    obtain ⟨X8, i, rfl, hi0, hi4, hR⟩ := hrel
    rename World => w8
    obtain ⟨zs, ns1, q, r, hCh, hBt, hBr, hBn, hO8⟩ := hR.out
    have HCh := Lib.hid hCh
    have HBt := Lib.hid hBt
    have HBr := Lib.hid hBr
    have HBn := Lib.hid hBn
    have HO8 := Lib.hid hO8
    clear hR hCh hBt hBr hBn hO8
    rcases (by omega : i = 0 ∨ i = 1 ∨ i = 2 ∨ i = 3 ∨ i = 4) with rfl | rfl | rfl | rfl | rfl
    · obtain ⟨ZS⟩ : ∃ ZS : List Int, ZS = zs := ⟨_, rfl⟩
      have hroom := ch_room hlv (by have := HLM.out; omega) (i := 0) (by omega) HCh.out
      have hnl := HCh.out.len.2
      have HWR := Lib.hid (show IntKind.i64.wrap ((lv : Int) + 1) = ((lv + 1 : Nat) : Int) by rw [IntKind.wrap_i64]; omega)
      have HOf := Lib.hid (fun W (hW : Ext w8 W) => rfOfN_is (some adL) m cL l lv 0 W ((HL.out.past X8.out HLG.out).to hW) HM.out (by omega))
      have HLy := Lib.hid (fun (W : World) (LA : Option Addr) (k lc : Nat) (hk : (ofD l lv 0).length = k) (hW : Ext w8 W) (h1 : RdI W LA k (ofD l lv 0)) (h2 : k ≤ lc) (h3 : lc ≤ maxLen) (h4 : k = 0 ∨ ∀ u, LA = some u → u.block ≠ g) =>
        HREC.out g n c Bz mz dz (ofD l lv 0) q r ns1 LA k lc W HN.out hk (by have h5 : (ofD l lv 0).length ≤ l.length := List.length_filter_le _ _; have h6 := HLM.out; have := HM.out; omega) h2 h3 h1 h4 (HP.out 0) (HO8.out.to hW) (by rw [hnl, HNS.out]) (by have h7 := HPN.out; have h8 : q + need (lv + 1) (ofD l lv 0) + 1 ≤ p + need lv l := hroom; omega))
      go_upto_region 28 with fail
      refine wp_region_noPanic ?_
      have hS0 : (fun W : World => W.cell? ⟨bt, 0, none⟩ = some (.slice (some ⟨g, 0, none⟩) n c) ∧ W.cell? ⟨bt, 1, none⟩ = some (.slice Bz mz dz) ∧ W.cell? ⟨bt, 2, none⟩ = some (.int .i64 q) ∧ W.cell? ⟨bt, 3, none⟩ = some (.int .u64 r)) w8.drew := ⟨HBt.out.cell 0, HBt.out.cell 1, HBt.out.cell 2, HBt.out.cell 3⟩
      refine wp_region_turn (S := fun W : World => W.cell? ⟨bt, 0, none⟩ = some (.slice (some ⟨g, 0, none⟩) n c) ∧ W.cell? ⟨bt, 1, none⟩ = some (.slice Bz mz dz) ∧ W.cell? ⟨bt, 2, none⟩ = some (.int .i64 q) ∧ W.cell? ⟨bt, 3, none⟩ = some (.int .u64 r)) 7 (by kernel_rfl) ?_
      refine AnyT.take (i := 0) (v := .agg #[.slice (some ⟨g, 0, none⟩) n c, .slice Bz mz dz, .int .i64 q, .int .u64 r]) rfl (by decide) (by kernel_rfl) (by kernel_rfl) (by kernel_rfl) (fun _ _ _ h => h) (Or.inl ⟨by rfl, by intro W hW; obtain ⟨g0, g1, g2, g3⟩ := hW; go_simp; try exact HWR.out⟩) hS0 (.inl (by kernel_rfl)) ?_
      try simp only [Act.put, List.getElem_toArray, List.getElem_cons_succ, List.getElem_cons_zero, List.setIfInBounds_toArray, List.set_cons_zero, List.set_cons_succ]
      refine AnyT.take (i := 1) (v := .slice (some adL) m cL) rfl (by decide) (by kernel_rfl) (by kernel_rfl) (by kernel_rfl) (fun _ _ _ h => h) (Or.inl ⟨by rfl, by intro W hW; obtain ⟨g0, g1, g2, g3⟩ := hW; go_simp; try exact HWR.out⟩) hS0 (.inr (Or.inl ⟨by rfl, by intro W hW; go_simp; try exact HWR.out⟩)) ?_
      try simp only [Act.put, List.getElem_toArray, List.getElem_cons_succ, List.getElem_cons_zero, List.setIfInBounds_toArray, List.set_cons_zero, List.set_cons_succ]
      refine AnyT.take (i := 2) (v := .int .i64 lv) rfl (by decide) (by kernel_rfl) (by kernel_rfl) (by kernel_rfl) (fun _ _ _ h => h) (Or.inl ⟨by rfl, by intro W hW; obtain ⟨g0, g1, g2, g3⟩ := hW; go_simp; try exact HWR.out⟩) hS0 (.inr (Or.inl ⟨by rfl, by intro W hW; go_simp; try exact HWR.out⟩)) ?_
      try simp only [Act.put, List.getElem_toArray, List.getElem_cons_succ, List.getElem_cons_zero, List.setIfInBounds_toArray, List.set_cons_zero, List.set_cons_succ]
      refine AnyT.take (i := 3) (v := .int .i64 0) rfl (by decide) (by kernel_rfl) (by kernel_rfl) (by kernel_rfl) (fun _ _ _ h => h) (Or.inl ⟨by rfl, by intro W hW; obtain ⟨g0, g1, g2, g3⟩ := hW; go_simp; try exact HWR.out⟩) hS0 (.inr (Or.inl ⟨by rfl, by intro W hW; go_simp; try exact HWR.out⟩)) ?_
      try simp only [Act.put, List.getElem_toArray, List.getElem_cons_succ, List.getElem_cons_zero, List.setIfInBounds_toArray, List.set_cons_zero, List.set_cons_succ]
      refine AnyT.take (i := 5) (v := .int .i64 lv) rfl (by decide) (by kernel_rfl) (by kernel_rfl) (by kernel_rfl) (fun _ _ _ h => h) (Or.inl ⟨by rfl, by intro W hW; obtain ⟨g0, g1, g2, g3⟩ := hW; go_simp; try exact HWR.out⟩) hS0 (.inr (Or.inl ⟨by rfl, by intro W hW; go_simp; try exact HWR.out⟩)) ?_
      try simp only [Act.put, List.getElem_toArray, List.getElem_cons_succ, List.getElem_cons_zero, List.setIfInBounds_toArray, List.set_cons_zero, List.set_cons_succ]
      refine AnyT.take (i := 6) (v := .int .i64 ((lv + 1 : Nat) : Int)) rfl (by decide) (by kernel_rfl) (by kernel_rfl) (by kernel_rfl) (fun _ _ _ h => h) (Or.inl ⟨by rfl, by intro W hW; obtain ⟨g0, g1, g2, g3⟩ := hW; go_simp; try exact HWR.out⟩) hS0 (.inr (Or.inl ⟨by rfl, by intro W hW; go_simp; try exact HWR.out⟩)) ?_
      try simp only [Act.put, List.getElem_toArray, List.getElem_cons_succ, List.getElem_cons_zero, List.setIfInBounds_toArray, List.set_cons_zero, List.set_cons_succ]
      refine AnyT.one (i := 4) (by kernel_rfl) (by decide) rfl (by rfl) ?_
      go_simp
      refine (HOf.out _ (Ext.refl w8).drew).mono ?_
      rintro e w9 ⟨LA, lc, rfl, hr9, hc9, hm9, hx9, hg9⟩
      have x9 : Ext w8 w9 := (Ext.refl w8).drew.step hx9
      have hg9' : (ofD l lv 0).length = 0 ∨ ∀ u, LA = some u → u.block ≠ g := by
        rcases hg9 with h | h
        · exact .inl h
        · right
          intro u hu e
          have h5 : w8.heap.size ≤ u.block := h u hu
          have h6 := HO8.out.lt
          omega
      have HBt9 := Lib.hid (HBt.out.to x9)
      refine ⟨⟨HBt9.out.cell 0, HBt9.out.cell 1, HBt9.out.cell 2, HBt9.out.cell 3⟩, ?_⟩
      try simp only [Act.put, List.getElem_toArray, List.getElem_cons_succ, List.getElem_cons_zero, List.setIfInBounds_toArray, List.set_cons_zero, List.set_cons_succ]
      refine AnyT.turn (n := 7) (by kernel_rfl) rfl (by rfl) ?_
      go_simp
      refine (HLy.out w9 LA _ lc rfl x9 hr9 hc9 hm9 hg9').mono ?_
      rintro e w10 ⟨ns2, z, cnt, rfl, hO10, ho10, hLd⟩
      have HBt10 := Lib.hid (ho10.bx HBt9.out (by have := HNE.out; omega))
      have HBr10 := Lib.hid (ho10.bx (HBr.out.to x9) (by have := HNE.out; omega))
      have HBn10 := Lib.hid (ho10.bx (HBn.out.to x9) (by have := HNE.out; omega))
      have HO10 := Lib.hid hO10
      have X10 := Lib.hid ((X8.out.ext x9).trans ho10)
      have HCh10 := Lib.hid (show Ch lv l ns p 1 (zs ++ [z]) ns2 (q + cnt) from ⟨zs, ns1, q, z, cnt, HCh.out, hLd, rfl, rfl⟩)
      clear hr9 hc9 hm9 hx9 hg9 hg9' x9 hO10 ho10 hLd hS0
      try simp only [Act.put, List.getElem_toArray, List.getElem_cons_succ, List.getElem_cons_zero, List.setIfInBounds_toArray, List.set_cons_zero, List.set_cons_succ]
      refine held_one2 (i := 8) (by kernel_rfl) rfl (by rfl) ?_
      refine wp_store_T4 (.tmp 3) (.tmp 99) (by rfl) bt (by rfl) #[.slice (some ⟨g, 0, none⟩) n c, .slice Bz mz dz, .int .i64 ((q + cnt : Nat) : Int), .int .u64 z] (by rfl) rfl (by simp [Value.oneCell']) _ HBt10.out rfl ?_
      intro w11 B11 O11
      have HBt11 := Lib.hid B11
      have HBr11 := Lib.hid (O11.bx HBr10.out (by have := HNE.out; omega))
      have HBn11 := Lib.hid (O11.bx HBn10.out (by have := HNE.out; omega))
      have HO11 := Lib.hid (HO10.out.only O11 (by have := HNE.out; omega))
      have X11 := Lib.hid (X10.out.new_too O11 (by have := HNE.out; omega))
      have k3 : w11.cell? ⟨bt, 3, none⟩ = some (.int .u64 z) := B11.cell 3
      clear B11 O11
      refine ⟨trivial, ?_⟩
      try simp only [Act.put, List.getElem_toArray, List.getElem_cons_succ, List.getElem_cons_zero, List.setIfInBounds_toArray, List.set_cons_zero, List.set_cons_succ]
      refine wpAnyH_done (by kernel_rfl) (NoPanic.normal ?_) _
      have hzl : zs.length = 0 := HCh.out.len.1
      go_wp2_with (first
        | (refine wpList_store_cell (by rfl) 31 (.tmp 104) (.tmp 102) (by rfl) bn 5 (by rfl) (.int .u64 z) (by rfl) rfl (by kernel_rfl) _ HBn11.out (by rw [Nd.arr_size]; omega) ?_
           intro w12 B12 O12
           have HBn12 := Lib.hid (show Bx w12 bn (boxNd 2 0 m (zs ++ [z])).arr by rw [← box_kidz 2 0 m z (by omega : zs.length ≤ 3), hzl]; exact B12)
           have HBt12 := Lib.hid (O12.bx HBt11.out (by have := HNE.out; omega))
           have HBr12 := Lib.hid (O12.bx HBr11.out (by have := HNE.out; omega))
           have HO12 := Lib.hid (HO11.out.only O12 (by have := HNE.out; omega))
           have X12 := Lib.hid (X11.out.new_too O12 (by have := HNE.out; omega))
           clear B12 O12 k3))
      go_roundw
      case rel => exact ⟨X12, 1, by go_num, by omega, by omega, Lib.hid ⟨zs ++ [z], ns2, q + cnt, z, HCh10.out, HBt12.out, HBr12.out, HBn12.out, HO12.out⟩⟩
      case measure => simp [intOf]
    · obtain ⟨ZS⟩ : ∃ ZS : List Int, ZS = zs := ⟨_, rfl⟩
      have hroom := ch_room hlv (by have := HLM.out; omega) (i := 1) (by omega) HCh.out
      have hnl := HCh.out.len.2
      have HWR := Lib.hid (show IntKind.i64.wrap ((lv : Int) + 1) = ((lv + 1 : Nat) : Int) by rw [IntKind.wrap_i64]; omega)
      have HOf := Lib.hid (fun W (hW : Ext w8 W) => rfOfN_is (some adL) m cL l lv 1 W ((HL.out.past X8.out HLG.out).to hW) HM.out (by omega))
      have HLy := Lib.hid (fun (W : World) (LA : Option Addr) (k lc : Nat) (hk : (ofD l lv 1).length = k) (hW : Ext w8 W) (h1 : RdI W LA k (ofD l lv 1)) (h2 : k ≤ lc) (h3 : lc ≤ maxLen) (h4 : k = 0 ∨ ∀ u, LA = some u → u.block ≠ g) =>
        HREC.out g n c Bz mz dz (ofD l lv 1) q r ns1 LA k lc W HN.out hk (by have h5 : (ofD l lv 1).length ≤ l.length := List.length_filter_le _ _; have h6 := HLM.out; have := HM.out; omega) h2 h3 h1 h4 (HP.out 1) (HO8.out.to hW) (by rw [hnl, HNS.out]) (by have h7 := HPN.out; have h8 : q + need (lv + 1) (ofD l lv 1) + 1 ≤ p + need lv l := hroom; omega))
      go_upto_region 28 with fail
      refine wp_region_noPanic ?_
      have hS0 : (fun W : World => W.cell? ⟨bt, 0, none⟩ = some (.slice (some ⟨g, 0, none⟩) n c) ∧ W.cell? ⟨bt, 1, none⟩ = some (.slice Bz mz dz) ∧ W.cell? ⟨bt, 2, none⟩ = some (.int .i64 q) ∧ W.cell? ⟨bt, 3, none⟩ = some (.int .u64 r)) w8.drew := ⟨HBt.out.cell 0, HBt.out.cell 1, HBt.out.cell 2, HBt.out.cell 3⟩
      refine wp_region_turn (S := fun W : World => W.cell? ⟨bt, 0, none⟩ = some (.slice (some ⟨g, 0, none⟩) n c) ∧ W.cell? ⟨bt, 1, none⟩ = some (.slice Bz mz dz) ∧ W.cell? ⟨bt, 2, none⟩ = some (.int .i64 q) ∧ W.cell? ⟨bt, 3, none⟩ = some (.int .u64 r)) 7 (by kernel_rfl) ?_
      refine AnyT.take (i := 0) (v := .agg #[.slice (some ⟨g, 0, none⟩) n c, .slice Bz mz dz, .int .i64 q, .int .u64 r]) rfl (by decide) (by kernel_rfl) (by kernel_rfl) (by kernel_rfl) (fun _ _ _ h => h) (Or.inl ⟨by rfl, by intro W hW; obtain ⟨g0, g1, g2, g3⟩ := hW; go_simp; try exact HWR.out⟩) hS0 (.inl (by kernel_rfl)) ?_
      try simp only [Act.put, List.getElem_toArray, List.getElem_cons_succ, List.getElem_cons_zero, List.setIfInBounds_toArray, List.set_cons_zero, List.set_cons_succ]
      refine AnyT.take (i := 1) (v := .slice (some adL) m cL) rfl (by decide) (by kernel_rfl) (by kernel_rfl) (by kernel_rfl) (fun _ _ _ h => h) (Or.inl ⟨by rfl, by intro W hW; obtain ⟨g0, g1, g2, g3⟩ := hW; go_simp; try exact HWR.out⟩) hS0 (.inr (Or.inl ⟨by rfl, by intro W hW; go_simp; try exact HWR.out⟩)) ?_
      try simp only [Act.put, List.getElem_toArray, List.getElem_cons_succ, List.getElem_cons_zero, List.setIfInBounds_toArray, List.set_cons_zero, List.set_cons_succ]
      refine AnyT.take (i := 2) (v := .int .i64 lv) rfl (by decide) (by kernel_rfl) (by kernel_rfl) (by kernel_rfl) (fun _ _ _ h => h) (Or.inl ⟨by rfl, by intro W hW; obtain ⟨g0, g1, g2, g3⟩ := hW; go_simp; try exact HWR.out⟩) hS0 (.inr (Or.inl ⟨by rfl, by intro W hW; go_simp; try exact HWR.out⟩)) ?_
      try simp only [Act.put, List.getElem_toArray, List.getElem_cons_succ, List.getElem_cons_zero, List.setIfInBounds_toArray, List.set_cons_zero, List.set_cons_succ]
      refine AnyT.take (i := 3) (v := .int .i64 1) rfl (by decide) (by kernel_rfl) (by kernel_rfl) (by kernel_rfl) (fun _ _ _ h => h) (Or.inl ⟨by rfl, by intro W hW; obtain ⟨g0, g1, g2, g3⟩ := hW; go_simp; try exact HWR.out⟩) hS0 (.inr (Or.inl ⟨by rfl, by intro W hW; go_simp; try exact HWR.out⟩)) ?_
      try simp only [Act.put, List.getElem_toArray, List.getElem_cons_succ, List.getElem_cons_zero, List.setIfInBounds_toArray, List.set_cons_zero, List.set_cons_succ]
      refine AnyT.take (i := 5) (v := .int .i64 lv) rfl (by decide) (by kernel_rfl) (by kernel_rfl) (by kernel_rfl) (fun _ _ _ h => h) (Or.inl ⟨by rfl, by intro W hW; obtain ⟨g0, g1, g2, g3⟩ := hW; go_simp; try exact HWR.out⟩) hS0 (.inr (Or.inl ⟨by rfl, by intro W hW; go_simp; try exact HWR.out⟩)) ?_
      try simp only [Act.put, List.getElem_toArray, List.getElem_cons_succ, List.getElem_cons_zero, List.setIfInBounds_toArray, List.set_cons_zero, List.set_cons_succ]
      refine AnyT.take (i := 6) (v := .int .i64 ((lv + 1 : Nat) : Int)) rfl (by decide) (by kernel_rfl) (by kernel_rfl) (by kernel_rfl) (fun _ _ _ h => h) (Or.inl ⟨by rfl, by intro W hW; obtain ⟨g0, g1, g2, g3⟩ := hW; go_simp; try exact HWR.out⟩) hS0 (.inr (Or.inl ⟨by rfl, by intro W hW; go_simp; try exact HWR.out⟩)) ?_
      try simp only [Act.put, List.getElem_toArray, List.getElem_cons_succ, List.getElem_cons_zero, List.setIfInBounds_toArray, List.set_cons_zero, List.set_cons_succ]
      refine AnyT.one (i := 4) (by kernel_rfl) (by decide) rfl (by rfl) ?_
      go_simp
      refine (HOf.out _ (Ext.refl w8).drew).mono ?_
      rintro e w9 ⟨LA, lc, rfl, hr9, hc9, hm9, hx9, hg9⟩
      have x9 : Ext w8 w9 := (Ext.refl w8).drew.step hx9
      have hg9' : (ofD l lv 1).length = 0 ∨ ∀ u, LA = some u → u.block ≠ g := by
        rcases hg9 with h | h
        · exact .inl h
        · right
          intro u hu e
          have h5 : w8.heap.size ≤ u.block := h u hu
          have h6 := HO8.out.lt
          omega
      have HBt9 := Lib.hid (HBt.out.to x9)
      refine ⟨⟨HBt9.out.cell 0, HBt9.out.cell 1, HBt9.out.cell 2, HBt9.out.cell 3⟩, ?_⟩
      try simp only [Act.put, List.getElem_toArray, List.getElem_cons_succ, List.getElem_cons_zero, List.setIfInBounds_toArray, List.set_cons_zero, List.set_cons_succ]
      refine AnyT.turn (n := 7) (by kernel_rfl) rfl (by rfl) ?_
      go_simp
      refine (HLy.out w9 LA _ lc rfl x9 hr9 hc9 hm9 hg9').mono ?_
      rintro e w10 ⟨ns2, z, cnt, rfl, hO10, ho10, hLd⟩
      have HBt10 := Lib.hid (ho10.bx HBt9.out (by have := HNE.out; omega))
      have HBr10 := Lib.hid (ho10.bx (HBr.out.to x9) (by have := HNE.out; omega))
      have HBn10 := Lib.hid (ho10.bx (HBn.out.to x9) (by have := HNE.out; omega))
      have HO10 := Lib.hid hO10
      have X10 := Lib.hid ((X8.out.ext x9).trans ho10)
      have HCh10 := Lib.hid (show Ch lv l ns p 2 (zs ++ [z]) ns2 (q + cnt) from ⟨zs, ns1, q, z, cnt, HCh.out, hLd, rfl, rfl⟩)
      clear hr9 hc9 hm9 hx9 hg9 hg9' x9 hO10 ho10 hLd hS0
      try simp only [Act.put, List.getElem_toArray, List.getElem_cons_succ, List.getElem_cons_zero, List.setIfInBounds_toArray, List.set_cons_zero, List.set_cons_succ]
      refine held_one2 (i := 8) (by kernel_rfl) rfl (by rfl) ?_
      refine wp_store_T4 (.tmp 3) (.tmp 99) (by rfl) bt (by rfl) #[.slice (some ⟨g, 0, none⟩) n c, .slice Bz mz dz, .int .i64 ((q + cnt : Nat) : Int), .int .u64 z] (by rfl) rfl (by simp [Value.oneCell']) _ HBt10.out rfl ?_
      intro w11 B11 O11
      have HBt11 := Lib.hid B11
      have HBr11 := Lib.hid (O11.bx HBr10.out (by have := HNE.out; omega))
      have HBn11 := Lib.hid (O11.bx HBn10.out (by have := HNE.out; omega))
      have HO11 := Lib.hid (HO10.out.only O11 (by have := HNE.out; omega))
      have X11 := Lib.hid (X10.out.new_too O11 (by have := HNE.out; omega))
      have k3 : w11.cell? ⟨bt, 3, none⟩ = some (.int .u64 z) := B11.cell 3
      clear B11 O11
      refine ⟨trivial, ?_⟩
      try simp only [Act.put, List.getElem_toArray, List.getElem_cons_succ, List.getElem_cons_zero, List.setIfInBounds_toArray, List.set_cons_zero, List.set_cons_succ]
      refine wpAnyH_done (by kernel_rfl) (NoPanic.normal ?_) _
      have hzl : zs.length = 1 := HCh.out.len.1
      go_wp2_with (first
        | (refine wpList_store_cell (by rfl) 31 (.tmp 104) (.tmp 102) (by rfl) bn 6 (by rfl) (.int .u64 z) (by rfl) rfl (by kernel_rfl) _ HBn11.out (by rw [Nd.arr_size]; omega) ?_
           intro w12 B12 O12
           have HBn12 := Lib.hid (show Bx w12 bn (boxNd 2 0 m (zs ++ [z])).arr by rw [← box_kidz 2 0 m z (by omega : zs.length ≤ 3), hzl]; exact B12)
           have HBt12 := Lib.hid (O12.bx HBt11.out (by have := HNE.out; omega))
           have HBr12 := Lib.hid (O12.bx HBr11.out (by have := HNE.out; omega))
           have HO12 := Lib.hid (HO11.out.only O12 (by have := HNE.out; omega))
           have X12 := Lib.hid (X11.out.new_too O12 (by have := HNE.out; omega))
           clear B12 O12 k3))
      go_roundw
      case rel => exact ⟨X12, 2, by go_num, by omega, by omega, Lib.hid ⟨zs ++ [z], ns2, q + cnt, z, HCh10.out, HBt12.out, HBr12.out, HBn12.out, HO12.out⟩⟩
      case measure => simp [intOf]
    · obtain ⟨ZS⟩ : ∃ ZS : List Int, ZS = zs := ⟨_, rfl⟩
      have hroom := ch_room hlv (by have := HLM.out; omega) (i := 2) (by omega) HCh.out
      have hnl := HCh.out.len.2
      have HWR := Lib.hid (show IntKind.i64.wrap ((lv : Int) + 1) = ((lv + 1 : Nat) : Int) by rw [IntKind.wrap_i64]; omega)
      have HOf := Lib.hid (fun W (hW : Ext w8 W) => rfOfN_is (some adL) m cL l lv 2 W ((HL.out.past X8.out HLG.out).to hW) HM.out (by omega))
      have HLy := Lib.hid (fun (W : World) (LA : Option Addr) (k lc : Nat) (hk : (ofD l lv 2).length = k) (hW : Ext w8 W) (h1 : RdI W LA k (ofD l lv 2)) (h2 : k ≤ lc) (h3 : lc ≤ maxLen) (h4 : k = 0 ∨ ∀ u, LA = some u → u.block ≠ g) =>
        HREC.out g n c Bz mz dz (ofD l lv 2) q r ns1 LA k lc W HN.out hk (by have h5 : (ofD l lv 2).length ≤ l.length := List.length_filter_le _ _; have h6 := HLM.out; have := HM.out; omega) h2 h3 h1 h4 (HP.out 2) (HO8.out.to hW) (by rw [hnl, HNS.out]) (by have h7 := HPN.out; have h8 : q + need (lv + 1) (ofD l lv 2) + 1 ≤ p + need lv l := hroom; omega))
      go_upto_region 28 with fail
      refine wp_region_noPanic ?_
      have hS0 : (fun W : World => W.cell? ⟨bt, 0, none⟩ = some (.slice (some ⟨g, 0, none⟩) n c) ∧ W.cell? ⟨bt, 1, none⟩ = some (.slice Bz mz dz) ∧ W.cell? ⟨bt, 2, none⟩ = some (.int .i64 q) ∧ W.cell? ⟨bt, 3, none⟩ = some (.int .u64 r)) w8.drew := ⟨HBt.out.cell 0, HBt.out.cell 1, HBt.out.cell 2, HBt.out.cell 3⟩
      refine wp_region_turn (S := fun W : World => W.cell? ⟨bt, 0, none⟩ = some (.slice (some ⟨g, 0, none⟩) n c) ∧ W.cell? ⟨bt, 1, none⟩ = some (.slice Bz mz dz) ∧ W.cell? ⟨bt, 2, none⟩ = some (.int .i64 q) ∧ W.cell? ⟨bt, 3, none⟩ = some (.int .u64 r)) 7 (by kernel_rfl) ?_
      refine AnyT.take (i := 0) (v := .agg #[.slice (some ⟨g, 0, none⟩) n c, .slice Bz mz dz, .int .i64 q, .int .u64 r]) rfl (by decide) (by kernel_rfl) (by kernel_rfl) (by kernel_rfl) (fun _ _ _ h => h) (Or.inl ⟨by rfl, by intro W hW; obtain ⟨g0, g1, g2, g3⟩ := hW; go_simp; try exact HWR.out⟩) hS0 (.inl (by kernel_rfl)) ?_
      try simp only [Act.put, List.getElem_toArray, List.getElem_cons_succ, List.getElem_cons_zero, List.setIfInBounds_toArray, List.set_cons_zero, List.set_cons_succ]
      refine AnyT.take (i := 1) (v := .slice (some adL) m cL) rfl (by decide) (by kernel_rfl) (by kernel_rfl) (by kernel_rfl) (fun _ _ _ h => h) (Or.inl ⟨by rfl, by intro W hW; obtain ⟨g0, g1, g2, g3⟩ := hW; go_simp; try exact HWR.out⟩) hS0 (.inr (Or.inl ⟨by rfl, by intro W hW; go_simp; try exact HWR.out⟩)) ?_
      try simp only [Act.put, List.getElem_toArray, List.getElem_cons_succ, List.getElem_cons_zero, List.setIfInBounds_toArray, List.set_cons_zero, List.set_cons_succ]
      refine AnyT.take (i := 2) (v := .int .i64 lv) rfl (by decide) (by kernel_rfl) (by kernel_rfl) (by kernel_rfl) (fun _ _ _ h => h) (Or.inl ⟨by rfl, by intro W hW; obtain ⟨g0, g1, g2, g3⟩ := hW; go_simp; try exact HWR.out⟩) hS0 (.inr (Or.inl ⟨by rfl, by intro W hW; go_simp; try exact HWR.out⟩)) ?_
      try simp only [Act.put, List.getElem_toArray, List.getElem_cons_succ, List.getElem_cons_zero, List.setIfInBounds_toArray, List.set_cons_zero, List.set_cons_succ]
      refine AnyT.take (i := 3) (v := .int .i64 2) rfl (by decide) (by kernel_rfl) (by kernel_rfl) (by kernel_rfl) (fun _ _ _ h => h) (Or.inl ⟨by rfl, by intro W hW; obtain ⟨g0, g1, g2, g3⟩ := hW; go_simp; try exact HWR.out⟩) hS0 (.inr (Or.inl ⟨by rfl, by intro W hW; go_simp; try exact HWR.out⟩)) ?_
      try simp only [Act.put, List.getElem_toArray, List.getElem_cons_succ, List.getElem_cons_zero, List.setIfInBounds_toArray, List.set_cons_zero, List.set_cons_succ]
      refine AnyT.take (i := 5) (v := .int .i64 lv) rfl (by decide) (by kernel_rfl) (by kernel_rfl) (by kernel_rfl) (fun _ _ _ h => h) (Or.inl ⟨by rfl, by intro W hW; obtain ⟨g0, g1, g2, g3⟩ := hW; go_simp; try exact HWR.out⟩) hS0 (.inr (Or.inl ⟨by rfl, by intro W hW; go_simp; try exact HWR.out⟩)) ?_
      try simp only [Act.put, List.getElem_toArray, List.getElem_cons_succ, List.getElem_cons_zero, List.setIfInBounds_toArray, List.set_cons_zero, List.set_cons_succ]
      refine AnyT.take (i := 6) (v := .int .i64 ((lv + 1 : Nat) : Int)) rfl (by decide) (by kernel_rfl) (by kernel_rfl) (by kernel_rfl) (fun _ _ _ h => h) (Or.inl ⟨by rfl, by intro W hW; obtain ⟨g0, g1, g2, g3⟩ := hW; go_simp; try exact HWR.out⟩) hS0 (.inr (Or.inl ⟨by rfl, by intro W hW; go_simp; try exact HWR.out⟩)) ?_
      try simp only [Act.put, List.getElem_toArray, List.getElem_cons_succ, List.getElem_cons_zero, List.setIfInBounds_toArray, List.set_cons_zero, List.set_cons_succ]
      refine AnyT.one (i := 4) (by kernel_rfl) (by decide) rfl (by rfl) ?_
      go_simp
      refine (HOf.out _ (Ext.refl w8).drew).mono ?_
      rintro e w9 ⟨LA, lc, rfl, hr9, hc9, hm9, hx9, hg9⟩
      have x9 : Ext w8 w9 := (Ext.refl w8).drew.step hx9
      have hg9' : (ofD l lv 2).length = 0 ∨ ∀ u, LA = some u → u.block ≠ g := by
        rcases hg9 with h | h
        · exact .inl h
        · right
          intro u hu e
          have h5 : w8.heap.size ≤ u.block := h u hu
          have h6 := HO8.out.lt
          omega
      have HBt9 := Lib.hid (HBt.out.to x9)
      refine ⟨⟨HBt9.out.cell 0, HBt9.out.cell 1, HBt9.out.cell 2, HBt9.out.cell 3⟩, ?_⟩
      try simp only [Act.put, List.getElem_toArray, List.getElem_cons_succ, List.getElem_cons_zero, List.setIfInBounds_toArray, List.set_cons_zero, List.set_cons_succ]
      refine AnyT.turn (n := 7) (by kernel_rfl) rfl (by rfl) ?_
      go_simp
      refine (HLy.out w9 LA _ lc rfl x9 hr9 hc9 hm9 hg9').mono ?_
      rintro e w10 ⟨ns2, z, cnt, rfl, hO10, ho10, hLd⟩
      have HBt10 := Lib.hid (ho10.bx HBt9.out (by have := HNE.out; omega))
      have HBr10 := Lib.hid (ho10.bx (HBr.out.to x9) (by have := HNE.out; omega))
      have HBn10 := Lib.hid (ho10.bx (HBn.out.to x9) (by have := HNE.out; omega))
      have HO10 := Lib.hid hO10
      have X10 := Lib.hid ((X8.out.ext x9).trans ho10)
      have HCh10 := Lib.hid (show Ch lv l ns p 3 (zs ++ [z]) ns2 (q + cnt) from ⟨zs, ns1, q, z, cnt, HCh.out, hLd, rfl, rfl⟩)
      clear hr9 hc9 hm9 hx9 hg9 hg9' x9 hO10 ho10 hLd hS0
      try simp only [Act.put, List.getElem_toArray, List.getElem_cons_succ, List.getElem_cons_zero, List.setIfInBounds_toArray, List.set_cons_zero, List.set_cons_succ]
      refine held_one2 (i := 8) (by kernel_rfl) rfl (by rfl) ?_
      refine wp_store_T4 (.tmp 3) (.tmp 99) (by rfl) bt (by rfl) #[.slice (some ⟨g, 0, none⟩) n c, .slice Bz mz dz, .int .i64 ((q + cnt : Nat) : Int), .int .u64 z] (by rfl) rfl (by simp [Value.oneCell']) _ HBt10.out rfl ?_
      intro w11 B11 O11
      have HBt11 := Lib.hid B11
      have HBr11 := Lib.hid (O11.bx HBr10.out (by have := HNE.out; omega))
      have HBn11 := Lib.hid (O11.bx HBn10.out (by have := HNE.out; omega))
      have HO11 := Lib.hid (HO10.out.only O11 (by have := HNE.out; omega))
      have X11 := Lib.hid (X10.out.new_too O11 (by have := HNE.out; omega))
      have k3 : w11.cell? ⟨bt, 3, none⟩ = some (.int .u64 z) := B11.cell 3
      clear B11 O11
      refine ⟨trivial, ?_⟩
      try simp only [Act.put, List.getElem_toArray, List.getElem_cons_succ, List.getElem_cons_zero, List.setIfInBounds_toArray, List.set_cons_zero, List.set_cons_succ]
      refine wpAnyH_done (by kernel_rfl) (NoPanic.normal ?_) _
      have hzl : zs.length = 2 := HCh.out.len.1
      go_wp2_with (first
        | (refine wpList_store_cell (by rfl) 31 (.tmp 104) (.tmp 102) (by rfl) bn 7 (by rfl) (.int .u64 z) (by rfl) rfl (by kernel_rfl) _ HBn11.out (by rw [Nd.arr_size]; omega) ?_
           intro w12 B12 O12
           have HBn12 := Lib.hid (show Bx w12 bn (boxNd 2 0 m (zs ++ [z])).arr by rw [← box_kidz 2 0 m z (by omega : zs.length ≤ 3), hzl]; exact B12)
           have HBt12 := Lib.hid (O12.bx HBt11.out (by have := HNE.out; omega))
           have HBr12 := Lib.hid (O12.bx HBr11.out (by have := HNE.out; omega))
           have HO12 := Lib.hid (HO11.out.only O12 (by have := HNE.out; omega))
           have X12 := Lib.hid (X11.out.new_too O12 (by have := HNE.out; omega))
           clear B12 O12 k3))
      go_roundw
      case rel => exact ⟨X12, 3, by go_num, by omega, by omega, Lib.hid ⟨zs ++ [z], ns2, q + cnt, z, HCh10.out, HBt12.out, HBr12.out, HBn12.out, HO12.out⟩⟩
      case measure => simp [intOf]
    · obtain ⟨ZS⟩ : ∃ ZS : List Int, ZS = zs := ⟨_, rfl⟩
      have hroom := ch_room hlv (by have := HLM.out; omega) (i := 3) (by omega) HCh.out
      have hnl := HCh.out.len.2
      have HWR := Lib.hid (show IntKind.i64.wrap ((lv : Int) + 1) = ((lv + 1 : Nat) : Int) by rw [IntKind.wrap_i64]; omega)
      have HOf := Lib.hid (fun W (hW : Ext w8 W) => rfOfN_is (some adL) m cL l lv 3 W ((HL.out.past X8.out HLG.out).to hW) HM.out (by omega))
      have HLy := Lib.hid (fun (W : World) (LA : Option Addr) (k lc : Nat) (hk : (ofD l lv 3).length = k) (hW : Ext w8 W) (h1 : RdI W LA k (ofD l lv 3)) (h2 : k ≤ lc) (h3 : lc ≤ maxLen) (h4 : k = 0 ∨ ∀ u, LA = some u → u.block ≠ g) =>
        HREC.out g n c Bz mz dz (ofD l lv 3) q r ns1 LA k lc W HN.out hk (by have h5 : (ofD l lv 3).length ≤ l.length := List.length_filter_le _ _; have h6 := HLM.out; have := HM.out; omega) h2 h3 h1 h4 (HP.out 3) (HO8.out.to hW) (by rw [hnl, HNS.out]) (by have h7 := HPN.out; have h8 : q + need (lv + 1) (ofD l lv 3) + 1 ≤ p + need lv l := hroom; omega))
      go_upto_region 28 with fail
      refine wp_region_noPanic ?_
      have hS0 : (fun W : World => W.cell? ⟨bt, 0, none⟩ = some (.slice (some ⟨g, 0, none⟩) n c) ∧ W.cell? ⟨bt, 1, none⟩ = some (.slice Bz mz dz) ∧ W.cell? ⟨bt, 2, none⟩ = some (.int .i64 q) ∧ W.cell? ⟨bt, 3, none⟩ = some (.int .u64 r)) w8.drew := ⟨HBt.out.cell 0, HBt.out.cell 1, HBt.out.cell 2, HBt.out.cell 3⟩
      refine wp_region_turn (S := fun W : World => W.cell? ⟨bt, 0, none⟩ = some (.slice (some ⟨g, 0, none⟩) n c) ∧ W.cell? ⟨bt, 1, none⟩ = some (.slice Bz mz dz) ∧ W.cell? ⟨bt, 2, none⟩ = some (.int .i64 q) ∧ W.cell? ⟨bt, 3, none⟩ = some (.int .u64 r)) 7 (by kernel_rfl) ?_
      refine AnyT.take (i := 0) (v := .agg #[.slice (some ⟨g, 0, none⟩) n c, .slice Bz mz dz, .int .i64 q, .int .u64 r]) rfl (by decide) (by kernel_rfl) (by kernel_rfl) (by kernel_rfl) (fun _ _ _ h => h) (Or.inl ⟨by rfl, by intro W hW; obtain ⟨g0, g1, g2, g3⟩ := hW; go_simp; try exact HWR.out⟩) hS0 (.inl (by kernel_rfl)) ?_
      try simp only [Act.put, List.getElem_toArray, List.getElem_cons_succ, List.getElem_cons_zero, List.setIfInBounds_toArray, List.set_cons_zero, List.set_cons_succ]
      refine AnyT.take (i := 1) (v := .slice (some adL) m cL) rfl (by decide) (by kernel_rfl) (by kernel_rfl) (by kernel_rfl) (fun _ _ _ h => h) (Or.inl ⟨by rfl, by intro W hW; obtain ⟨g0, g1, g2, g3⟩ := hW; go_simp; try exact HWR.out⟩) hS0 (.inr (Or.inl ⟨by rfl, by intro W hW; go_simp; try exact HWR.out⟩)) ?_
      try simp only [Act.put, List.getElem_toArray, List.getElem_cons_succ, List.getElem_cons_zero, List.setIfInBounds_toArray, List.set_cons_zero, List.set_cons_succ]
      refine AnyT.take (i := 2) (v := .int .i64 lv) rfl (by decide) (by kernel_rfl) (by kernel_rfl) (by kernel_rfl) (fun _ _ _ h => h) (Or.inl ⟨by rfl, by intro W hW; obtain ⟨g0, g1, g2, g3⟩ := hW; go_simp; try exact HWR.out⟩) hS0 (.inr (Or.inl ⟨by rfl, by intro W hW; go_simp; try exact HWR.out⟩)) ?_
      try simp only [Act.put, List.getElem_toArray, List.getElem_cons_succ, List.getElem_cons_zero, List.setIfInBounds_toArray, List.set_cons_zero, List.set_cons_succ]
      refine AnyT.take (i := 3) (v := .int .i64 3) rfl (by decide) (by kernel_rfl) (by kernel_rfl) (by kernel_rfl) (fun _ _ _ h => h) (Or.inl ⟨by rfl, by intro W hW; obtain ⟨g0, g1, g2, g3⟩ := hW; go_simp; try exact HWR.out⟩) hS0 (.inr (Or.inl ⟨by rfl, by intro W hW; go_simp; try exact HWR.out⟩)) ?_
      try simp only [Act.put, List.getElem_toArray, List.getElem_cons_succ, List.getElem_cons_zero, List.setIfInBounds_toArray, List.set_cons_zero, List.set_cons_succ]
      refine AnyT.take (i := 5) (v := .int .i64 lv) rfl (by decide) (by kernel_rfl) (by kernel_rfl) (by kernel_rfl) (fun _ _ _ h => h) (Or.inl ⟨by rfl, by intro W hW; obtain ⟨g0, g1, g2, g3⟩ := hW; go_simp; try exact HWR.out⟩) hS0 (.inr (Or.inl ⟨by rfl, by intro W hW; go_simp; try exact HWR.out⟩)) ?_
      try simp only [Act.put, List.getElem_toArray, List.getElem_cons_succ, List.getElem_cons_zero, List.setIfInBounds_toArray, List.set_cons_zero, List.set_cons_succ]
      refine AnyT.take (i := 6) (v := .int .i64 ((lv + 1 : Nat) : Int)) rfl (by decide) (by kernel_rfl) (by kernel_rfl) (by kernel_rfl) (fun _ _ _ h => h) (Or.inl ⟨by rfl, by intro W hW; obtain ⟨g0, g1, g2, g3⟩ := hW; go_simp; try exact HWR.out⟩) hS0 (.inr (Or.inl ⟨by rfl, by intro W hW; go_simp; try exact HWR.out⟩)) ?_
      try simp only [Act.put, List.getElem_toArray, List.getElem_cons_succ, List.getElem_cons_zero, List.setIfInBounds_toArray, List.set_cons_zero, List.set_cons_succ]
      refine AnyT.one (i := 4) (by kernel_rfl) (by decide) rfl (by rfl) ?_
      go_simp
      refine (HOf.out _ (Ext.refl w8).drew).mono ?_
      rintro e w9 ⟨LA, lc, rfl, hr9, hc9, hm9, hx9, hg9⟩
      have x9 : Ext w8 w9 := (Ext.refl w8).drew.step hx9
      have hg9' : (ofD l lv 3).length = 0 ∨ ∀ u, LA = some u → u.block ≠ g := by
        rcases hg9 with h | h
        · exact .inl h
        · right
          intro u hu e
          have h5 : w8.heap.size ≤ u.block := h u hu
          have h6 := HO8.out.lt
          omega
      have HBt9 := Lib.hid (HBt.out.to x9)
      refine ⟨⟨HBt9.out.cell 0, HBt9.out.cell 1, HBt9.out.cell 2, HBt9.out.cell 3⟩, ?_⟩
      try simp only [Act.put, List.getElem_toArray, List.getElem_cons_succ, List.getElem_cons_zero, List.setIfInBounds_toArray, List.set_cons_zero, List.set_cons_succ]
      refine AnyT.turn (n := 7) (by kernel_rfl) rfl (by rfl) ?_
      go_simp
      refine (HLy.out w9 LA _ lc rfl x9 hr9 hc9 hm9 hg9').mono ?_
      rintro e w10 ⟨ns2, z, cnt, rfl, hO10, ho10, hLd⟩
      have HBt10 := Lib.hid (ho10.bx HBt9.out (by have := HNE.out; omega))
      have HBr10 := Lib.hid (ho10.bx (HBr.out.to x9) (by have := HNE.out; omega))
      have HBn10 := Lib.hid (ho10.bx (HBn.out.to x9) (by have := HNE.out; omega))
      have HO10 := Lib.hid hO10
      have X10 := Lib.hid ((X8.out.ext x9).trans ho10)
      have HCh10 := Lib.hid (show Ch lv l ns p 4 (zs ++ [z]) ns2 (q + cnt) from ⟨zs, ns1, q, z, cnt, HCh.out, hLd, rfl, rfl⟩)
      clear hr9 hc9 hm9 hx9 hg9 hg9' x9 hO10 ho10 hLd hS0
      try simp only [Act.put, List.getElem_toArray, List.getElem_cons_succ, List.getElem_cons_zero, List.setIfInBounds_toArray, List.set_cons_zero, List.set_cons_succ]
      refine held_one2 (i := 8) (by kernel_rfl) rfl (by rfl) ?_
      refine wp_store_T4 (.tmp 3) (.tmp 99) (by rfl) bt (by rfl) #[.slice (some ⟨g, 0, none⟩) n c, .slice Bz mz dz, .int .i64 ((q + cnt : Nat) : Int), .int .u64 z] (by rfl) rfl (by simp [Value.oneCell']) _ HBt10.out rfl ?_
      intro w11 B11 O11
      have HBt11 := Lib.hid B11
      have HBr11 := Lib.hid (O11.bx HBr10.out (by have := HNE.out; omega))
      have HBn11 := Lib.hid (O11.bx HBn10.out (by have := HNE.out; omega))
      have HO11 := Lib.hid (HO10.out.only O11 (by have := HNE.out; omega))
      have X11 := Lib.hid (X10.out.new_too O11 (by have := HNE.out; omega))
      have k3 : w11.cell? ⟨bt, 3, none⟩ = some (.int .u64 z) := B11.cell 3
      clear B11 O11
      refine ⟨trivial, ?_⟩
      try simp only [Act.put, List.getElem_toArray, List.getElem_cons_succ, List.getElem_cons_zero, List.setIfInBounds_toArray, List.set_cons_zero, List.set_cons_succ]
      refine wpAnyH_done (by kernel_rfl) (NoPanic.normal ?_) _
      have hzl : zs.length = 3 := HCh.out.len.1
      go_wp2_with (first
        | (refine wpList_store_cell (by rfl) 31 (.tmp 104) (.tmp 102) (by rfl) bn 8 (by rfl) (.int .u64 z) (by rfl) rfl (by kernel_rfl) _ HBn11.out (by rw [Nd.arr_size]; omega) ?_
           intro w12 B12 O12
           have HBn12 := Lib.hid (show Bx w12 bn (boxNd 2 0 m (zs ++ [z])).arr by rw [← box_kidz 2 0 m z (by omega : zs.length ≤ 3), hzl]; exact B12)
           have HBt12 := Lib.hid (O12.bx HBt11.out (by have := HNE.out; omega))
           have HBr12 := Lib.hid (O12.bx HBr11.out (by have := HNE.out; omega))
           have HO12 := Lib.hid (HO11.out.only O12 (by have := HNE.out; omega))
           have X12 := Lib.hid (X11.out.new_too O12 (by have := HNE.out; omega))
           clear B12 O12 k3))
      go_roundw
      case rel => exact ⟨X12, 4, by go_num, by omega, by omega, Lib.hid ⟨zs ++ [z], ns2, q + cnt, z, HCh10.out, HBt12.out, HBr12.out, HBn12.out, HO12.out⟩⟩
      case measure => simp [intOf]
    · have hct := ch_trie hlv (by have := HLM.out; omega) (by have := HLM.out; omega) (by rw [HNS.out]; exact HN.out) HCh.out (by rw [HNS.out]; exact HPN.out)
      obtain ⟨hqn, cnt, hqc, hLd⟩ := hct
      have hql : q < ns1.length := by rw [HCh.out.len.2]; exact hqn
      have hqn' : q < n := by rw [← HNS.out]; exact hqn
      have hnq : ¬ n ≤ q := by omega
      have hq0 : ¬ ((q : Int) < 0) := by omega
      have hq512 : q < 512 := by have := HN.out; omega
      have HQC := Lib.hid hqc
      have HLd := Lib.hid (show LaidH ns (ns1.set q (boxNd 2 0 m zs)) p cnt lv l ((q + 1 : Nat) : Int) by rw [HLM.out] at hLd; exact hLd)
      have ny := HBn.out.node
      obtain ⟨y, hy⟩ : ∃ y, y = boxNd 2 0 m zs := ⟨_, rfl⟩
      rw [← hy] at ny HLd
      have k0 : w8.cell? ⟨bt, 0, none⟩ = some (.slice (some ⟨g, 0, none⟩) n c) := HBt.out.cell 0
      have k2 : w8.cell? ⟨bt, 2, none⟩ = some (.int .i64 q) := HBt.out.cell 2
      clear hy hLd hqc hqn
      go_wp2_with (first
        | (refine wpList_load_nd (by rfl) (.tmp 7) (by rfl) _ (by rfl) y ny ?_)
        | (refine wpList_store_in (by rfl) _ _ (by rfl) g q (by rfl) y (by rfl) ns1 HO8.out hql ?_
           intro w9 N9 O9
           have HN9 := Lib.hid N9
           have HB9 := Lib.hid (O9.bx HBt.out (by have := HNE.out; omega))
           have HR9 := Lib.hid (O9.bx HBr.out (by have := HNE.out; omega))
           have X9 := Lib.hid (X8.out.trans O9)
           have k2 : w9.cell? ⟨bt, 2, none⟩ = some (.int .i64 q) := HB9.out.cell 2
           clear N9 O9)
        | (refine wpList_store_cell (by rfl) 3 (.tmp 115) (.tmp 114) (by rfl) bt 2 (by rfl) (.int .i64 ((q : Int) + 1)) (by rfl) rfl (by kernel_rfl) _ HB9.out (by simp) ?_
           intro w10 B10 O10
           have HB10 := Lib.hid (show Bx w10 bt #[.slice (some ⟨g, 0, none⟩) n c, .slice Bz mz dz, .int .i64 ((q : Int) + 1), .int .u64 r] from B10)
           have HN10 := Lib.hid (HN9.out.only O10 (by have := HNE.out; omega))
           have HR10 := Lib.hid (O10.bx HR9.out (by have := HNE.out; omega))
           have X10 := Lib.hid (X9.out.new_too O10 (by have := HNE.out; omega))
           have k3 : w10.cell? ⟨bt, 2, none⟩ = some (.int .i64 ((q : Int) + 1)) := HB10.out.cell 2
           clear B10 O10 k2)
        | (refine wpList_store_cell (by rfl) 31 (.tmp 119) (.tmp 118) (by rfl) bt 3 (by rfl) (.int .u64 ((q : Int) + 1)) (by rfl) rfl (by kernel_rfl) _ HB10.out (by simp) ?_
           intro w11 B11 O11
           have HB11 := Lib.hid (show Bx w11 bt #[.slice (some ⟨g, 0, none⟩) n c, .slice Bz mz dz, .int .i64 ((q : Int) + 1), .int .u64 ((q : Int) + 1)] from B11)
           have HN11 := Lib.hid (HN10.out.only O11 (by have := HNE.out; omega))
           have HR11 := Lib.hid (O11.bx HR10.out (by have := HNE.out; omega))
           have X11 := Lib.hid (X10.out.new_too O11 (by have := HNE.out; omega))
           clear B11 O11 k3)
        | (refine wpList_load_agg 76 (by rfl) (.tmp 3) (by rfl) _ (by rfl) _ (loadT4i HB11.out rfl) ?_)
        | (refine wpList_store_T4 (by rfl) (.tmp 6) (.tmp 120) (by rfl) br (by rfl) #[.slice (some ⟨g, 0, none⟩) n c, .slice Bz mz dz, .int .i64 ((q : Int) + 1), .int .u64 ((q : Int) + 1)] (by rfl) rfl (by simp [Value.oneCell']) _ HR11.out rfl ?_
           intro w12 B12 O12
           have HN12 := Lib.hid (HN11.out.only O12 (by have := HNE.out; omega))
           have X12 := Lib.hid (X11.out.new_too O12 (by have := HNE.out; omega))))
      refine bodyPost_ret (results_T4 rfl _ _ br _ (by rfl) B12 rfl) rfl ?_
      refine ⟨ns1.set q y, ((q + 1 : Nat) : Int), cnt, ?_, HN12.out, X12.out, HLd.out⟩
      rw [← HQC.out]
      rfl

theorem lay9_all (P : Nat → Row → Prop) (hP : ∀ lv, lv < 10 → ∀ l, P lv l → ∀ i : Int, P (lv + 1) (ofD l lv i)) (h10 : LayO P 10) : ∀ k lv, lv + k = 10 → LayO P lv := by
  intro k
  induction k with
  | zero => intro lv h; obtain rfl : lv = 10 := by omega
            exact h10
  | succ k ih => intro lv h; exact lay9_step P lv (by omega) (hP lv (by omega)) (ih (lv + 1) (by omega))
theorem lay9_apt : LayO Apt 0 := by
  refine lay9_all Apt (fun lv _ l h i => h.down i) ?_ 10 0 rfl
  intro g n c Bz mz dz l p r0 ns L m cL w hn hlm hm hmc hcL hL hLg hp hO hns hpn
  have := hp.few
  by_cases h0 : m = 0
  · subst h0
    obtain rfl : l = [] := List.eq_nil_of_length_eq_zero hlm
    exact lay9_nil g n c Bz mz dz ns p 10 r0 L cL w hO
  · obtain rfl : m = 1 := by omega
    obtain ⟨x, rfl⟩ := List.length_eq_one_iff.1 hlm
    have hone : need 10 [x] = 1 := by simp [need]
    exact lay9_one g n c Bz mz dz ns p 10 r0 x L cL w hO hL hns hn (by omega)

end Go.Proofs.Ytfoifcbaadnigaa
