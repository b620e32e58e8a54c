/-
  Contracts: slices.Max over references; the table of each digit's tables (trie), of a maker that has room.
-/
import Derived.Test.YtfoifcbaadnigaaHtHas
import Derived.Test.YtfoifcbaadnigaaHtMake
import Derived.Test.YtfoifcbaadnigaaMinMax
set_option linter.unusedVariables false
set_option linter.unusedSimpArgs false
namespace Go.Proofs.Ytfoifcbaadnigaa
open Go.RowKit

theorem wpList_maxU {P : Program} {ops : Array Oper} {rest : List Oper} {o : Oper} {a : Act} {w : World} {Q : Exit → Act → World → Prop} (hgd : o.guard = none) (x y : Operand) (t : TypeId)
    (ho : o.op = .call { callee := .builtin .max, args := #[x, y], argTypes := #[t, t] }) (p q m : Int) (hx : a.eval x = .int .u64 p) (hy : a.eval y = .int .u64 q) (hm : max p q = m)
    (h : wpList P ops Q rest (a.put o.dst (.int .u64 m)) w) : wpList P ops Q (o :: rest) a w := by
  refine wpList_plain hgd fun K hK => ?_
  unfold Oper.wp execOp
  simp only [ho, resolve, invoke, builtin, Sem.run_bind, Sem.run_pure, Result.andThen_ok, List.map_toArray, List.map_cons, List.map_nil, hx]
  have hr : (Builtin.max_ #[t, t] o.type #[.int .u64 p, .int .u64 q]).run P w = .ok (.int .u64 (if q > p then q else p)) w := by simp [Builtin.max_, Builtin.max2]
  have hv : (if q > p then q else p) = m := by split <;> omega
  rw [hy, hr, hv]
  exact hK _ _ h

def mxL (zs : List Int) : Int := zs.foldl max 0
theorem mxL_snoc {zs : List Int} {k : Nat} (hk : k < zs.length) : mxL (zs.take (k + 1)) = max (mxL (zs.take k)) (ith zs k) := by
  unfold mxL
  rw [List.take_add_one, ith_of zs hk]
  simp

set_option maxHeartbeats 2000000 in
set_option maxRecDepth 100000 in
theorem htMax_is (K : Option Addr) (cK : Nat) (zs : List Int) (w : World) (hK : Rd w 1 K 4 (Us zs)) (hU : ∀ i, i < 4 → 0 ≤ ith zs i) :
    Calls Try.prog 60 #[.slice K 4 cK] w fun e w' => e = .returned (.int .u64 (mxL zs)) ∧ Ext w w' := by
  have hz := hK.u64len
  obtain ⟨ad, rfl⟩ := hK.some_ (by omega) (by omega)
  have HK := Lib.hid hK
  have HZ := Lib.hid hz
  have HU := Lib.hid hU
  have hall : mxL (zs.take 4) = mxL zs := by rw [List.take_of_length_le (by omega)]
  obtain ⟨M, hM⟩ : ∃ M, M = mxL zs := ⟨_, rfl⟩
  rw [← hM]
  have HALL := Lib.hid (show mxL (zs.take 4) = M by rw [hM, hall])
  have e1 := mxL_snoc (zs := zs) (k := 0) (by omega)
  have e0 : mxL (zs.take 0) = 0 := by simp [mxL]
  have q0 : w.cell? ad = some (.int .u64 (ith zs 0)) := by have := hK.u64 (j := 0) (by omega); simpa [Addr.add] using this
  have HE1 := Lib.hid (show mxL (zs.take 1) = ith zs 0 by rw [e1, e0]; have := hU 0 (by omega); omega)
  clear hK hz hU hall e1 e0 hM
  go_enter Try.func60, Try.ntmps60
  go_wp2_with fail
  go_loopw [3, 4] (fun m j wr => Hid (Ext w wr) ∧ ∃ (k : Nat) (v : Int), k ≤ 4 ∧ 1 ≤ k ∧ j = .int .i64 k ∧ m = .int .u64 v ∧ Hid (v = mxL (zs.take k))) (fun _ j _ => 4 - (intOf j).toNat)
  case atStart => exact ⟨Lib.hid (Ext.refl _), 1, ith zs 0, by omega, by omega, rfl, rfl, Lib.hid HE1.out.symm⟩
  case round =>
    obtain ⟨hx, k, v, hk, hk1, rfl, rfl, hv⟩ := hrel
    rename World => w5
    by_cases hkn : k < 4
    · have c0 : w5.cell? (ad.add k) = some (.int .u64 (ith zs k)) := hx.out.cellOf (HK.out.u64 hkn)
      obtain ⟨z, hz⟩ : ∃ z, z = ith zs k := ⟨_, rfl⟩
      rw [← hz] at c0
      obtain ⟨m, hm⟩ : ∃ m, m = max v z := ⟨_, rfl⟩
      have HM := Lib.hid (show m = mxL (zs.take (k + 1)) by rw [hm, hv.out, hz, mxL_snoc (by rw [HZ.out]; exact hkn)])
      have HMM := Lib.hid hm
      have hX5 := hx
      clear hx hz hm
      have hnk : ¬ 4 ≤ k := by omega
      go_wp2_with (refine wpList_maxU rfl (.tmp 18) (.tmp 22) 31 (by rfl) v z m (by rfl) (by rfl) HMM.out.symm ?_)
      exact ⟨⟨hX5, k + 1, m, by omega, by omega, rfl, rfl, HM⟩, by simp [intOf]; omega⟩
    · obtain rfl : k = 4 := by omega
      obtain rfl : v = M := hv.out.trans HALL.out
      go_wp2_with fail
      go_ret
      exact ⟨rfl, hx.out⟩

/-- What a maker's call leaves where it has room: a reference, of which something is told. -/
def TOut (b : Nat) (ns : List Nd) (fs : List Int) (c : Nat) (good : List Nd → Int → Prop) (w : World) (e : Ending) (w' : World) : Prop :=
  ∃ ns' fs' z, e = .returned (.int .u64 z) ∧ Mk w' b ns' fs' 0 ∧ Only b w w' ∧ Gr ns fs ns' fs' c ∧ U z ∧ FarTo b w w' ∧ good ns' z
theorem TOut.mono {b : Nat} {ns : List Nd} {fs : List Int} {c c' : Nat} {g g' : List Nd → Int → Prop} {w : World} {e : Ending} {w' : World} (h : TOut b ns fs c g w e w') (hc : c ≤ c') (hg : ∀ ns' z, (∀ r p x, Got ns r p x → Got ns' r p x) → g ns' z → g' ns' z) : TOut b ns fs c' g' w e w' := by
  obtain ⟨ns', fs', z, h1, h2, h3, h4, h5, h6, h7⟩ := h
  exact ⟨ns', fs', z, h1, h2, h3, h4.more hc, h5, h6, hg _ _ h4.keep h7⟩
theorem TOut.split {b : Nat} {ns : List Nd} {fs : List Int} {c : Nat} {g : List Nd → Int → Prop} {w : World} {e : Ending} {w' : World} (h : TOut b ns fs c g w e w') : ∃ z, e = .returned (.int .u64 z) ∧ Hid (TOut b ns fs c g w (.returned (.int .u64 z)) w') := by
  obtain ⟨ns', fs', z, rfl, h⟩ := h
  exact ⟨z, rfl, Lib.hid ⟨ns', fs', z, rfl, h⟩⟩
/-- The tree of a reference. -/
structure Tr (ns : List Nd) (lv : Nat) (t : HT) : Prop where
  rp : Rp ns t
  sh : Sh lv t
  u : U t.ref
theorem Tr.mono {ns ns' : List Nd} (hk : ∀ r p x, Got ns r p x → Got ns' r p x) {lv : Nat} {t : HT} (h : Tr ns lv t) : Tr ns' lv t := ⟨h.rp.mono hk, h.sh, h.u⟩
theorem Tr.may {ns : List Nd} {lv : Nat} {t : HT} (h : Tr ns lv t) : RefMay t.ref := by
  cases t with
  | nil => exact .inl rfl
  | leaf x => obtain ⟨g, hg⟩ := h.rp; exact .inr hg.node
  | trie r p a b c d => obtain ⟨⟨g, hg⟩, _⟩ := h.rp; exact .inr hg.node
  | clash r p ls => obtain ⟨⟨g, hg⟩, _⟩ := h.rp; exact .inr hg.node
theorem Sh.none {lv : Nat} {t : HT} (h : Sh lv t) (hs : t.size = 0) : t = .nil := by
  cases t with
  | nil => rfl
  | leaf x => simp [HT.size, HT.lvs] at hs
  | trie r p a b c d => have := h.two; omega
  | clash r p ls => have := h.2.1; simp [HT.size, HT.lvs] at hs; simp [hs] at this
theorem Sh.one {lv : Nat} {t : HT} (h : Sh lv t) (hs : t.size = 1) : ∃ x, t = .leaf x := by
  cases t with
  | nil => simp [HT.size, HT.lvs] at hs
  | leaf x => exact ⟨x, rfl⟩
  | trie r p a b c d => have := h.two; omega
  | clash r p ls => have := h.2.1; simp [HT.size, HT.lvs] at hs; simp [hs] at this
theorem makes_box {k s : Int} {zs : List Int} (h1 : 1 ≤ k) (h2 : k ≤ 100) (h3 : 0 ≤ s) (h4 : s ≤ 1000) (hz : ∀ i, i < 9 → RefMay (ith zs i)) : (boxNd k 0 s zs).Makes :=
  ⟨by simpa [boxNd] using h1, by simpa [boxNd] using h2, ⟨by simp [boxNd], by simp [boxNd]⟩, ⟨by simp [boxNd], by simp [boxNd]⟩, fun r hr => by
    simp [boxNd, Nd.kids] at hr
    rcases hr with rfl | rfl | rfl | rfl | rfl | rfl | rfl | rfl | rfl <;> exact hz _ (by omega)⟩
theorem ok_box {k g s : Int} {zs : List Int} (hz : ∀ i, i < 9 → U (ith zs i)) : (boxNd k g s zs).Ok := fun r hr => by
  simp [boxNd, Nd.kids] at hr
  rcases hr with rfl | rfl | rfl | rfl | rfl | rfl | rfl | rfl | rfl <;> exact hz _ (by omega)
theorem ith4 {P : Int → Prop} {a b c d : Int} (h0 : P 0) (ha : P a) (hb : P b) (hc : P c) (hd : P d) : ∀ i, i < 9 → P (ith [a, b, c, d] i) := fun i hi => by
  rcases (by omega : i = 0 ∨ i = 1 ∨ i = 2 ∨ i = 3 ∨ 4 ≤ i) with rfl | rfl | rfl | rfl | h
  · exact ha
  · exact hb
  · exact hc
  · exact hd
  · rw [ith_over (by simpa using h)]; exact h0
/-- Of four trees with one key among them: it is the greatest reference. -/
theorem one_of4 {ns : List Nd} {lv : Nat} {t0 t1 t2 t3 : HT} (h0 : Tr ns lv t0) (h1 : Tr ns lv t1) (h2 : Tr ns lv t2) (h3 : Tr ns lv t3) (hs : t0.size + (t1.size + (t2.size + t3.size)) = 1) :
    ∃ x, Lv ns x ∧ U x.r ∧ mxL [t0.ref, t1.ref, t2.ref, t3.ref] = x.r ∧ t0.lvs ++ (t1.lvs ++ (t2.lvs ++ t3.lvs)) = [x] := by
  rcases (by omega : (t0.size = 1 ∧ t1.size = 0 ∧ t2.size = 0 ∧ t3.size = 0) ∨ (t0.size = 0 ∧ t1.size = 1 ∧ t2.size = 0 ∧ t3.size = 0) ∨ (t0.size = 0 ∧ t1.size = 0 ∧ t2.size = 1 ∧ t3.size = 0) ∨ (t0.size = 0 ∧ t1.size = 0 ∧ t2.size = 0 ∧ t3.size = 1)) with ⟨a, b, c, d⟩ | ⟨a, b, c, d⟩ | ⟨a, b, c, d⟩ | ⟨a, b, c, d⟩
  · obtain ⟨x, rfl⟩ := h0.sh.one a
    rw [h1.sh.none b, h2.sh.none c, h3.sh.none d]
    have hu : U x.r := h0.u
    exact ⟨x, h0.rp, hu, by have := hu.1; simp [mxL, HT.ref]; omega, rfl⟩
  · obtain ⟨x, rfl⟩ := h1.sh.one b
    rw [h0.sh.none a, h2.sh.none c, h3.sh.none d]
    have hu : U x.r := h1.u
    exact ⟨x, h1.rp, hu, by have := hu.1; simp [mxL, HT.ref]; omega, rfl⟩
  · obtain ⟨x, rfl⟩ := h2.sh.one c
    rw [h0.sh.none a, h1.sh.none b, h3.sh.none d]
    have hu : U x.r := h2.u
    exact ⟨x, h2.rp, hu, by have := hu.1; simp [mxL, HT.ref]; omega, rfl⟩
  · obtain ⟨x, rfl⟩ := h3.sh.one d
    rw [h0.sh.none a, h1.sh.none b, h2.sh.none c]
    have hu : U x.r := h3.u
    exact ⟨x, h3.rp, hu, by have := hu.1; simp [mxL, HT.ref]; omega, rfl⟩

set_option maxHeartbeats 2000000 in
set_option maxRecDepth 100000 in
theorem htTrie4_is (b : Nat) (ns : List Nd) (fs : List Int) (lv : Nat) (t0 t1 t2 t3 : HT) (K : Option Addr) (cK : Nat) (w : World) (h : Mk w b ns fs 0) (hK : Rd w 1 K 4 (Us [t0.ref, t1.ref, t2.ref, t3.ref]))
    (h0 : Tr ns (lv + 1) t0) (h1 : Tr ns (lv + 1) t1) (h2 : Tr ns (lv + 1) t2) (h3 : Tr ns (lv + 1) t3) (hlv : lv < 10) (hd : Dg lv 0 t0 ∧ Dg lv 1 t1 ∧ Dg lv 2 t2 ∧ Dg lv 3 t3)
    (hs1 : 1 ≤ t0.size + (t1.size + (t2.size + t3.size))) (hs2 : t0.size + (t1.size + (t2.size + t3.size)) ≤ 200) (hf : 1 ≤ fs.length) :
    Calls Try.prog 44 #[.agg #[.pointer (some ⟨b, 0, none⟩)], .slice K 4 cK] w
      (TOut b ns fs 1 (fun ns' z => ∃ t, Tr ns' lv t ∧ t.ref = z ∧ t.lvs = t0.lvs ++ (t1.lvs ++ (t2.lvs ++ t3.lvs))) w) := by
  obtain ⟨A, n, c, B, m, d, hb, ha, hA, hB⟩ := h.box
  obtain ⟨w1, hw1⟩ : ∃ w1, w1 = w.alloc (.cells #[.pointer (some ⟨b, 0, none⟩)] 62) := ⟨_, rfl⟩
  obtain ⟨B1, hx1, hs1'⟩ := box_made hw1
  obtain ⟨s, hs⟩ : ∃ s, s = t0.size + (t1.size + (t2.size + t3.size)) := ⟨_, rfl⟩
  obtain ⟨zs, hzs⟩ : ∃ zs, zs = [t0.ref, t1.ref, t2.ref, t3.ref] := ⟨_, rfl⟩
  have hsum : sumS ns zs = (s : Int) := by rw [hzs, hs]; exact sum4 (szF_rp h0.rp) (szF_rp h1.rp) (szF_rp h2.rp) (szF_rp h3.rp) (by omega)
  have hUz : ∀ i, i < 9 → U (ith zs i) := by rw [hzs]; exact ith4 U.zero h0.u h1.u h2.u h3.u
  have hRz : ∀ i, i < 9 → RefMay (ith zs i) := by rw [hzs]; exact ith4 (.inl rfl) h0.may h1.may h2.may h3.may
  have hUm : ∀ z ∈ zs, U z := by rw [hzs]; simp; exact ⟨h0.u, h1.u, h2.u, h3.u⟩
  rw [← hzs] at hK
  rw [← hs] at hs1 hs2
  have HW := Lib.hid (fun W (hW : Ext w W) => htWith_is A B n c m d ns 2 0 K 4 cK zs W (ha.nodes.to hW) (hK.to hW) (by omega) hUm)
  rw [hsum] at HW
  have HMX := Lib.hid (fun W (hW : Ext w W) => htMax_is K cK zs W (hK.to hW) (fun i hi => (hUz i (by omega)).1))
  have HMK := Lib.hid (fun W (hW : Ext w W) => htMake_is b ns fs 0 (boxNd 2 0 s zs) W (h.to hW) (makes_box (by omega) (by omega) (by omega) (by omega) hRz) (ok_box hUz))
  obtain ⟨x, hx⟩ : ∃ x, x = boxNd 2 0 (s : Int) zs := ⟨_, rfl⟩
  rw [← hx] at HW HMK
  have HX := Lib.hid hx
  clear hx
  have c0 : w1.cell? ⟨b, 0, none⟩ = some (.slice A n c) := (hb.to hx1).cell 0
  have c1 : w1.cell? ⟨b, 1, none⟩ = some (.slice B m d) := (hb.to hx1).cell 1
  have c2 : w1.cell? ⟨w.heap.size, 0, none⟩ = some (.pointer (some ⟨b, 0, none⟩)) := B1.cell 0
  have H1 := Lib.hid hw1
  have X1 := Lib.hid hx1
  have HB1 := Lib.hid B1
  have HM0 := Lib.hid h
  have HT := Lib.hid (And.intro h0 (And.intro h1 (And.intro h2 h3)))
  have HD := Lib.hid hd
  have HS := Lib.hid hs
  have HZ := Lib.hid hzs
  clear hb ha hA hB h hw1 B1 hx1 hs1' hs hzs hsum hUz hRz hUm hK h0 h1 h2 h3 hd
  go_enter Try.func44, Try.ntmps44
  go_upto_region 1 with fail
  rw [← H1.out]
  go_wp2_with fail
  refine (HW.out _ X1.out).mono ?_; rintro e w3 ⟨rfl, hx3⟩
  obtain ⟨w4, hw4⟩ : ∃ w4, w4 = w3.alloc (.cells x.arr 68) := ⟨_, rfl⟩
  obtain ⟨B4, hx4, hs4⟩ := box_made hw4
  have H4 := Lib.hid hw4
  have X4 := Lib.hid (X1.out.step (hx3.step hx4))
  have n4 := B4.node
  have k4 : w4.cell? ⟨w3.heap.size, 4, none⟩ = some (.int .i64 (s : Int)) := by rw [show (s : Int) = x.s by rw [HX.out]; rfl]; exact (B4.cell 4).trans x.a4
  have c2' : w4.cell? ⟨w.heap.size, 0, none⟩ = some (.pointer (some ⟨b, 0, none⟩)) := (hx3.step hx4).cellOf c2
  clear hw4 B4 hx3 hx4 hs4 c0 c1 c2
  by_cases hone : s = 1
  · subst hone
    obtain ⟨y, x1, x2, x3, x4⟩ := one_of4 HT.out.1 HT.out.2.1 HT.out.2.2.1 HT.out.2.2.2 HS.out.symm
    rw [← HZ.out] at x3
    have HF := Lib.hid (show ∀ W, Ext w W → TOut b ns fs 1 (fun ns' z => ∃ t, Tr ns' lv t ∧ t.ref = z ∧ t.lvs = t0.lvs ++ (t1.lvs ++ (t2.lvs ++ t3.lvs))) w (.returned (.int .u64 (mxL zs))) W from fun W hW =>
      ⟨ns, fs, mxL zs, rfl, HM0.out.to hW, (Only.refl b w).ext hW, Gr.refl _ _ _, by rw [x3]; exact x2, FarTo.ext hW HM0.out.lt, .leaf y, ⟨x1, trivial, x2⟩, x3.symm, x4.symm⟩)
    clear x1 x2 x3 x4
    go_wp2_with (first
      | (refine wpList_store_nd (W := w3) (by rfl) _ _ (by rfl) (by rfl) x (by rfl) _ (by rfl) (by rfl) ?_; rw [← H4.out])
      | (go_at_call 60; refine (HMX.out _ X4.out).mono ?_; rintro e w5 ⟨rfl, hx5⟩))
    go_ret
    exact HF.out _ (X4.out.step hx5)
  · have hne : ((s : Int) == 1) = false := by simp; omega
    have HF := Lib.hid (show ∀ e W, NewOut b ns fs 0 x w4 e W → TOut b ns fs 1 (fun ns' z => ∃ t, Tr ns' lv t ∧ t.ref = z ∧ t.lvs = t0.lvs ++ (t1.lvs ++ (t2.lvs ++ t3.lvs))) w e W from fun e W ⟨ns', fs', err', z, g1, g2, g3, g4, g5, g6, g7, g8, _, g9⟩ => by
      obtain rfl : err' = 0 := by
        rcases g2.err with rfl | rfl
        · rfl
        · rcases g8 rfl with h | h
          · cases h
          · omega
      obtain ⟨_, p, g, hg⟩ := g7 rfl
      have hk := g4.keep
      obtain ⟨h0, h1, h2, h3⟩ := HT.out
      refine ⟨ns', fs', z, g1, g2, ((Only.refl b w).ext X4.out).trans g3, g4, g6, (FarTo.ext X4.out HM0.out.lt).trans g9 X4.out.size, .trie z p t0 t1 t2 t3, ⟨⟨⟨g, ?_⟩, h0.rp.mono hk, h1.rp.mono hk, h2.rp.mono hk, h3.rp.mono hk⟩, ⟨hlv, by have := HS.out; omega, HD.out, h0.sh, h1.sh, h2.sh, h3.sh⟩, g6⟩, rfl, rfl⟩
      rw [← HS.out, ← HZ.out]
      rw [HX.out] at hg
      exact hg)
    have HMF := Lib.hid ((HMK.out _ X4.out).mono HF.out)
    clear hone HF HMK
    go_wp2_with (first
      | (refine wpList_store_nd (W := w3) (by rfl) _ _ (by rfl) (by rfl) x (by rfl) _ (by rfl) (by rfl) ?_; rw [← H4.out])
      | (refine wpList_load_nd (by rfl) _ (by rfl) _ (by rfl) x n4 ?_)
      | (go_at_call 25; refine HMF.out.mono ?_; rintro e w5 hno'; obtain ⟨z, rfl, hno⟩ := hno'.split; clear hno'))
    go_ret
    exact hno.out

end Go.Proofs.Ytfoifcbaadnigaa
