/-
  Contract: the closure of Put.
-/
import Derived.Test.YthgaogbpkedjcaaTrSplit
set_option linter.unusedVariables false
set_option linter.unusedSimpArgs false
namespace Go.Proofs.Ythgaogbpkedjcaa
open Go.RowKit

/-- The map in which a key has a value. -/
def GoodP (s : T) (key v : Int) (ns' : List Nd) (z : Int) : Prop := ∃ t, Rep ns' t ∧ t.ref = z ∧ t.row = putR s.row key v ∧ Hp t
/-- What a change tells that was made: a reference, and that it was. -/
def COut (b : Nat) (ns : List Nd) (fs : List Int) (err : Int) (c : Nat) (good : List Nd → Int → Prop) (w : World) (e : Ending) (w' : World) : Prop :=
  ∃ ns' fs' err' z, e = .returned (.tuple #[.int .u64 z, .bool true]) ∧ Mk w' b ns' fs' err' ∧ Only b w w' ∧ Gr ns fs ns' fs' c ∧ RefMay z ∧ U z ∧ (err' = 0 → err = 0 ∧ good ns' z) ∧ (err' = 2 → err = 2 ∨ fs.length < c)
theorem COut.pre {b : Nat} {ns : List Nd} {fs : List Int} {err : Int} {c : Nat} {good : List Nd → Int → Prop} {w w1 : World} {e : Ending} {w' : World} (h : COut b ns fs err c good w1 e w') (hx : Ext w w1) : COut b ns fs err c good w e w' := by
  obtain ⟨ns', fs', err', z, h1, h2, h3, h4⟩ := h
  exact ⟨ns', fs', err', z, h1, h2, ((Only.refl b w).ext hx).trans h3, h4⟩
/-- What the closure's variables hold. -/
structure PutV (W : World) (b bk bm bv : Nat) (key v : Int) : Prop where
  k : Bx W bk #[.int .i64 key]
  m : Bx W bm #[.pointer (some ⟨b, 0, none⟩)]
  v : Bx W bv #[.int .i64 v]
  nk : bk ≠ b
  nm : bm ≠ b
  nv : bv ≠ b
theorem PutV.to {W W' : World} {b bk bm bv : Nat} {key v : Int} (h : PutV W b bk bm bv key v) (hx : Ext W W') : PutV W' b bk bm bv key v := ⟨h.k.to hx, h.m.to hx, h.v.to hx, h.nk, h.nm, h.nv⟩
theorem PutV.only {W W' : World} {b bk bm bv : Nat} {key v : Int} (h : PutV W b bk bm bv key v) (ho : Only b W W') : PutV W' b bk bm bv key v := ⟨ho.bx h.k h.nk, ho.bx h.m h.nm, ho.bx h.v h.nv, h.nk, h.nm, h.nv⟩

/-- The change is made here. -/
def StopP (s : T) (key : Int) : Prop := match s with | .nil => True | .node _ _ k _ _ => Bef key k ∨ key = k
theorem hp_above {s : T} {key : Int} (hh : Hp s) (hs : match s with | .nil => True | .node _ _ k _ _ => Bef key k) : ∀ x ∈ s.row, Bef key x.1 := by
  cases s with
  | nil => intro x hx; simp [T.row] at hx
  | node r l k v u =>
    intro x hx
    simp only at hs
    simp only [T.row] at hx
    rcases List.mem_append.1 hx with hx | hx
    · exact hs.trans (hh.1 x hx)
    · rcases List.mem_cons.1 hx with hx | hx
      · rw [hx]; exact hs
      · exact hs.trans (hh.2.1 x hx)
theorem goodP_new {s : T} {key v z : Int} {ns' ns'' : List Nd} {z1 z2 : Int} (hS : Srt s.row) (hH : Hp s) (hz : s.size ≤ 200) (ha : ∀ x ∈ s.row, Bef key x.1) (hg : GoodS s key ns' z1 z2) (hk : ∀ r p x, Got ns' r p x → Got ns'' r p x)
    (hgot : ∃ p g, Got ns'' z p (trNd g key v (sumI (nodeF ns' z1).s (nodeF ns' z2).s) z1 z2)) : GoodP s key v ns'' z := by
  obtain ⟨t1, t2, h1, h2, rfl, rfl, h5, h6, h7, h8⟩ := hg
  have l1 : t1.size ≤ 200 := by rw [← T.row_length, h5]; have := lo_len s.row key; rw [T.row_length] at this; omega
  have l2 : t2.size ≤ 200 := by rw [← T.row_length, h6]; have := ge_len s.row key; rw [T.row_length] at this; omega
  have hn : ¬ HasK s.row key := fun ⟨u, hu⟩ => Bef.irrefl key (ha (key, u) hu)
  refine ⟨.node z t1 key v t2, kid_got hk h1 h2 (by omega) hgot, rfl, ?_, ⟨fun x hx => ha x (mem_lo.1 (h5 ▸ hx)).1, fun x hx => ha x (mem_ge.1 (h6 ▸ hx)).1, h7, h8⟩⟩
  simp only [T.row]
  rw [h5, h6, put_new hS hn]
theorem goodP_here {r : Int} {l : T} {key v' v z : Int} {u : T} {ns ns'' : List Nd} (hS : Srt (T.node r l key v' u).row) (hR : Rep ns (.node r l key v' u)) (hH : Hp (.node r l key v' u)) (hz : l.size + u.size ≤ 400) (hk : ∀ r p x, Got ns r p x → Got ns'' r p x)
    (hgot : ∃ p g, Got ns'' z p (trNd g key v (sumI (nodeF ns l.ref).s (nodeF ns u.ref).s) l.ref u.ref)) : GoodP (.node r l key v' u) key v ns'' z := by
  refine ⟨.node z l key v u, kid_got hk hR.2.1 hR.2.2 (by omega) hgot, rfl, ?_, hH⟩
  simp only [T.row]
  rw [put_here hS]

/-- What the closure tells. -/
def PutCP (b : Nat) (ns : List Nd) (fs : List Int) (err : Int) (s : T) (key v : Int) (w : World) (e : Ending) (w' : World) : Prop :=
  (StopP s key ∧ COut b ns fs err (s.size + 1) (GoodP s key v) w e w') ∨ (¬ StopP s key ∧ e = .returned (.tuple #[.int .u64 0, .bool false]) ∧ Ext w w')

set_option maxHeartbeats 6400000 in
set_option maxRecDepth 100000 in
theorem putC_is (b bk bm bv : Nat) (key v : Int) (s : T) (ns : List Nd) (fs : List Int) (err : Int) (w : World) (h : Mk w b ns fs err) (hV : PutV w b bk bm bv key v) (hR : Rep ns s) (hS : Srt s.row) (hH : Hp s) (hz : s.size ≤ 200) (hU : U s.ref) :
    Calls Try.prog 38 #[.int .u64 s.ref, .agg (nodeF ns s.ref).arr, .pointer (some ⟨bk, 0, none⟩), .pointer (some ⟨bm, 0, none⟩), .pointer (some ⟨bv, 0, none⟩)] w (PutCP b ns fs err s key v w) := by
  obtain ⟨x, hx⟩ : ∃ x, x = nodeF ns s.ref := ⟨_, rfl⟩
  rw [← hx]
  obtain ⟨w1, hw1⟩ : ∃ w1, w1 = w.alloc (.cells x.arr 66) := ⟨_, rfl⟩
  obtain ⟨B1, hx1, hs1⟩ := box_made hw1
  have hV1 := hV.to hx1
  have HV1 := Lib.hid hV1
  have HM1 := Lib.hid (h.to hx1)
  have H1 := Lib.hid hw1
  have X1 := Lib.hid hx1
  have HB1 := Lib.hid B1
  have HX := Lib.hid hx
  have HR := Lib.hid hR
  have HS := Lib.hid hS
  have HH := Lib.hid hH
  have HZ := Lib.hid hz
  have HU := Lib.hid hU
  have v0 : w1.cell? ⟨bk, 0, none⟩ = some (.int .i64 key) := hV1.k.cell 0
  have v1 : w1.cell? ⟨bm, 0, none⟩ = some (.pointer (some ⟨b, 0, none⟩)) := hV1.m.cell 0
  have v2 : w1.cell? ⟨bv, 0, none⟩ = some (.int .i64 v) := hV1.v.cell 0
  have HOK := Lib.hid h.ok
  -- the split, and the new node
  have stop : ∀ (w2 : World), Ext w w2 → (∀ x ∈ s.row, Bef key x.1) → Calls Try.prog 40 #[.pointer (some ⟨b, 0, none⟩), .int .u64 s.ref, .int .i64 key] w2 (SOut b ns fs err s.size (GoodS s key) w2) :=
    fun w2 hx2 _ => split_is b key s ns fs err w2 (h.to hx2) hR hS hH hz hU
  have HSt := Lib.hid stop
  have c2 : w1.cell? ⟨w.heap.size, 2, none⟩ = some (.int .i64 x.n) := (B1.cell 2).trans x.a2
  have c5 : w1.cell? ⟨w.heap.size, 5, none⟩ = some (.int .u64 x.r0) := (B1.cell 5).trans x.a5
  have c6 : w1.cell? ⟨w.heap.size, 6, none⟩ = some (.int .u64 x.r1) := (B1.cell 6).trans x.a6
  rw [hw1] at v0 v1 v2 c2 c5 c6
  clear hw1 B1 hx1 hs1 hV hV1 h stop hR hS hH hz hU hx
  cases s with
  | nil =>
    rw [show T.nil.ref = 0 from rfl] at HSt ⊢
    go_enter Try.func38, Try.ntmps38
    go_wp2_with fail
    rw [← H1.out]
    refine (HSt.out _ X1.out (fun x hx => by simp [T.row] at hx)).mono ?_
    rintro e w3 ⟨ns3, fs3, err3, z1, z2, rfl, hM3, hO3, hG3, hr1, hr2, hu1, hu2, hg3, he3⟩
    have hV3 := HV1.out.only hO3
    have v0 : w3.cell? ⟨bk, 0, none⟩ = some (.int .i64 key) := hV3.k.cell 0
    have v1 : w3.cell? ⟨bm, 0, none⟩ = some (.pointer (some ⟨b, 0, none⟩)) := hV3.m.cell 0
    have v2 : w3.cell? ⟨bv, 0, none⟩ = some (.int .i64 v) := hV3.v.cell 0
    have HMd := Lib.hid (made_is b ns3 fs3 err3 key v z1 z2 (some ⟨w3.heap.size, 0, none⟩) 2 (w3.alloc (.cells #[.int .u64 z1, .int .u64 z2] 27)) (hM3.to ((Ext.refl _).new _)) (Rd.lit w3 #[.int .u64 z1, .int .u64 z2] 27 2 rfl) hr1 hr2 hu1 hu2)
    have HG3 := Lib.hid hG3
    have HO3 := Lib.hid hO3
    have Hg3 := Lib.hid hg3
    have He3 := Lib.hid he3
    clear hM3 hO3 hG3 hr1 hr2 hu1 hu2 hg3 he3 hV3
    go_wp2_with fail
    refine HMd.out.mono ?_
    rintro e w4 ⟨ns4, fs4, err4, z4, rfl, hM4, hO4, hG4, hr4, hu4, hg4, he4⟩
    have HF := Lib.hid (show PutCP b ns fs err .nil key v w (.returned (.tuple #[.int .u64 z4, .bool true])) w4 from .inl ⟨trivial, by
      refine ⟨ns4, fs4, err4, z4, rfl, hM4, ((((Only.refl b w).ext X1.out).trans HO3.out).ext ((Ext.refl _).new _)).trans hO4, HG3.out.trans hG4, hr4, hu4, fun h => ?_, fun h => ?_⟩
      · obtain ⟨h1, h2⟩ := hg4 h
        obtain ⟨h3, h4⟩ := Hg3.out h1
        exact ⟨h3, goodP_new HS.out HH.out HZ.out (fun x hx => by simp [T.row] at hx) h4 hG4.keep h2⟩
      · rcases he4 h with h1 | h1
        · rcases He3.out h1 with h2 | h2
          · exact .inl h2
          · exact .inr (by omega)
        · have := HG3.out.few
          exact .inr (by omega)⟩)
    clear hM4 hO4 hG4 hr4 hu4 hg4 he4
    go_wp2_with fail
    go_ret2
    exact HF.out
  | node r l k vv u =>
    rw [show (T.node r l k vv u).ref = r from rfl] at HSt HX HU ⊢
    obtain ⟨y, hy⟩ := HR.out.nod
    obtain rfl : x = y := by rw [HX.out]; exact hy.at_
    rw [hy.n] at c2
    rw [hy.r0] at c5
    rw [hy.r1] at c6
    have hr0 : (r == 0) = false := by simp [HR.out.ref_nz]
    have HKU := Lib.hid (HR.out.kids HOK.out)
    have HB := Lib.hid (fun W => Before_is key k W)
    clear hy
    go_enter Try.func38, Try.ntmps38
    go_wp2_with fail
    rw [← H1.out]
    refine (HB.out _).mono ?_; rintro e w2 ⟨rfl, hx2⟩
    have hV2 := HV1.out.to hx2
    have HV2 := Lib.hid hV2
    have v0 : w2.cell? ⟨bk, 0, none⟩ = some (.int .i64 key) := hV2.k.cell 0
    have v1 : w2.cell? ⟨bm, 0, none⟩ = some (.pointer (some ⟨b, 0, none⟩)) := hV2.m.cell 0
    have v2 : w2.cell? ⟨bv, 0, none⟩ = some (.int .i64 v) := hV2.v.cell 0
    rw [← H1.out] at c2 c5 c6
    have c2 : w2.cell? ⟨w.heap.size, 2, none⟩ = some (.int .i64 k) := hx2.cellOf c2
    have c5 : w2.cell? ⟨w.heap.size, 5, none⟩ = some (.int .u64 l.ref) := hx2.cellOf c5
    have c6 : w2.cell? ⟨w.heap.size, 6, none⟩ = some (.int .u64 u.ref) := hx2.cellOf c6
    have X2 := Lib.hid (X1.out.step hx2)
    have HM2 := Lib.hid (HM1.out.to hx2)
    clear hx2 hV2
    cases hb : bef key k
    · have hnb := Lib.hid (bef_not.1 hb)
      clear hb
      by_cases he : key = k
      · subst he
        have HMd := Lib.hid (made_is b ns fs err key v l.ref u.ref (some ⟨w2.heap.size, 0, none⟩) 2 (w2.alloc (.cells #[.int .u64 l.ref, .int .u64 u.ref] 27)) (HM2.out.to ((Ext.refl _).new _)) (Rd.lit w2 #[.int .u64 l.ref, .int .u64 u.ref] 27 2 rfl) (refMay_rep HR.out.2.1) (refMay_rep HR.out.2.2) HKU.out.1 HKU.out.2)
        go_wp2_with fail
        refine HMd.out.mono ?_
        rintro e w4 ⟨ns4, fs4, err4, z4, rfl, hM4, hO4, hG4, hr4, hu4, hg4, he4⟩
        have HF := Lib.hid (show PutCP b ns fs err (.node r l key vv u) key v w (.returned (.tuple #[.int .u64 z4, .bool true])) w4 from .inl ⟨.inr rfl, by
          refine ⟨ns4, fs4, err4, z4, rfl, hM4, (((Only.refl b w).ext X2.out).ext ((Ext.refl _).new _)).trans hO4, hG4.more (by omega), hr4, hu4, fun h => ?_, fun h => ?_⟩
          · obtain ⟨h1, h2⟩ := hg4 h
            exact ⟨h1, goodP_here HS.out HR.out HH.out (by have := HZ.out; simp only [T.size] at this; omega) hG4.keep h2⟩
          · rcases he4 h with h1 | h1
            · exact .inl h1
            · exact .inr (by omega)⟩)
        clear hM4 hO4 hG4 hr4 hu4 hg4 he4
        go_wp2_with fail
        go_ret2
        exact HF.out
      · have he' : (key == k) = false := by simp [he]
        have HF := Lib.hid (show PutCP b ns fs err (.node r l k vv u) key v w (.returned (.tuple #[.int .u64 0, .bool false])) w2 from .inr ⟨fun h => h.elim hnb.out he, rfl, X2.out⟩)
        clear he
        go_wp2_with fail
        go_ret2
        exact HF.out
    · have hab := Lib.hid (hp_above (s := .node r l k vv u) HH.out (bef_iff.1 hb))
      have hbk := Lib.hid (bef_iff.1 hb)
      clear hb
      go_wp2_with fail
      refine (HSt.out _ X2.out hab.out).mono ?_
      rintro e w3 ⟨ns3, fs3, err3, z1, z2, rfl, hM3, hO3, hG3, hr1, hr2, hu1, hu2, hg3, he3⟩
      have hV3 := HV2.out.only hO3
      have v0 : w3.cell? ⟨bk, 0, none⟩ = some (.int .i64 key) := hV3.k.cell 0
      have v1 : w3.cell? ⟨bm, 0, none⟩ = some (.pointer (some ⟨b, 0, none⟩)) := hV3.m.cell 0
      have v2 : w3.cell? ⟨bv, 0, none⟩ = some (.int .i64 v) := hV3.v.cell 0
      have HMd := Lib.hid (made_is b ns3 fs3 err3 key v z1 z2 (some ⟨w3.heap.size, 0, none⟩) 2 (w3.alloc (.cells #[.int .u64 z1, .int .u64 z2] 27)) (hM3.to ((Ext.refl _).new _)) (Rd.lit w3 #[.int .u64 z1, .int .u64 z2] 27 2 rfl) hr1 hr2 hu1 hu2)
      have HG3 := Lib.hid hG3
      have HO3 := Lib.hid hO3
      have Hg3 := Lib.hid hg3
      have He3 := Lib.hid he3
      clear hM3 hO3 hG3 hr1 hr2 hu1 hu2 hg3 he3 hV3
      go_wp2_with fail
      refine HMd.out.mono ?_
      rintro e w4 ⟨ns4, fs4, err4, z4, rfl, hM4, hO4, hG4, hr4, hu4, hg4, he4⟩
      have HF := Lib.hid (show PutCP b ns fs err (.node r l k vv u) key v w (.returned (.tuple #[.int .u64 z4, .bool true])) w4 from .inl ⟨(.inl hbk.out), by
        refine ⟨ns4, fs4, err4, z4, rfl, hM4, ((((Only.refl b w).ext X2.out).trans HO3.out).ext ((Ext.refl _).new _)).trans hO4, HG3.out.trans hG4, hr4, hu4, fun h => ?_, fun h => ?_⟩
        · obtain ⟨h1, h2⟩ := hg4 h
          obtain ⟨h3, h4⟩ := Hg3.out h1
          exact ⟨h3, goodP_new HS.out HH.out HZ.out hab.out h4 hG4.keep h2⟩
        · rcases he4 h with h1 | h1
          · rcases He3.out h1 with h2 | h2
            · exact .inl h2
            · exact .inr (by omega)
          · have := HG3.out.few
            exact .inr (by omega)⟩)
      clear hM4 hO4 hG4 hr4 hu4 hg4 he4
      go_wp2_with fail
      go_ret2
      exact HF.out

end Go.Proofs.Ythgaogbpkedjcaa
