/-
  Contract: Put of package hamt, where no two hashes are alike and there is room.
-/
import Derived.Test.YtfoifcbaadnigaaHtDel
set_option linter.unusedVariables false
set_option linter.unusedSimpArgs false
namespace Go.Proofs.Ytfoifcbaadnigaa
open Go.RowKit

/-- A key may be put, and no other one has its hash. -/
structure PutOk (ns : List Nd) (key : Int) (t : HT) : Prop where
  tr : Tr ns 0 t
  ne : t.lvs.Pairwise (fun a b => hsI a.k ≠ hsI b.k)
  ky : ∀ y ∈ t.lvs, hsI y.k = hsI key → y.k = key
  le : t.size ≤ 199
  lo : -1073741824 ≤ key
  hi : key ≤ 1073741824
/-- What is answered: the other leaves, and a new one. -/
def PutH (ns : List Nd) (fs : List Int) (t : HT) (key v : Int) (w : World) (e : Ending) (w' : World) : Prop :=
  ∃ (A : Option Addr) (n c : Nat) (B : Option Addr) (m d : Nat) (ns' : List Nd) (fs' : List Int) (z : Int) (t' : HT),
    e = .returned (.tuple #[.agg #[.slice A n c, .slice B m d], .int .u64 z, .int .i64 0]) ∧ Ar w' A n B m ns' fs' ∧ ArMay ns' fs' ∧ Gr ns fs ns' fs' 11 ∧ Tr ns' 0 t' ∧ t'.ref = z ∧ t'.row.Perm ((offK key t.lvs).map Lf.it ++ [(key, v)]) ∧ Ext w w'
theorem Mk.old {w : World} {b : Nat} {ns : List Nd} {fs : List Int} {err : Int} (h : Mk w b ns fs err) (hf : 1 ≤ fs.length) : Old w b := by
  obtain ⟨A, n, c, B, m, d, hb, ha, _⟩ := h.box
  have hpos := h.may.pos
  intro X hX j q nn cc hj hc
  have hlt : q.block < w.heap.size := by
    rw [hb.cell] at hc
    rcases (by omega : j = 0 ∨ j = 1) with rfl | rfl
    · simp at hc
      obtain ⟨x, hx⟩ : ∃ x, (flat Nd.cells ns)[0]? = some x := ⟨_, List.getElem?_eq_getElem (by rw [flat_length Nd.cells_length]; omega)⟩
      obtain ⟨ad, e, hcc⟩ := ha.nodes.2 0 x hx
      rw [hc.1] at e
      injection e with e
      subst e
      have := World.block_lt_of_cell? w _ hcc
      rwa [addr_block] at this
    · simp at hc
      obtain ⟨x, hx⟩ : ∃ x, (Ks .i64 fs)[0]? = some x := ⟨_, List.getElem?_eq_getElem (by simp [Ks]; omega)⟩
      obtain ⟨ad, e, hcc⟩ := ha.free.2 0 x hx
      rw [hc.1] at e
      injection e with e
      subst e
      have := World.block_lt_of_cell? w _ hcc
      rwa [addr_block] at this
  omega
theorem PutOk.wg {ns ns1 : List Nd} {key v : Int} {t : HT} (h : PutOk ns key t) (hk : ∀ r p x, Got ns r p x → Got ns1 r p x) {z : Int} {p : Nat} {g : Int} (hz : Got ns1 z p (leafNd g key v)) (hu : U z) : WG ns1 key 0 t [⟨z, p, key, v⟩] :=
  ⟨h.tr.mono hk, by simp, fun y hy => by
    simp at hy
    rw [hy]
    exact ⟨⟨g, hz⟩, hu, rfl⟩, h.ne, h.ky, fun y _ => by rw [pas_zero, pas_zero], by have := h.le; simp; omega, by
    have h1 := offK_le key t.lvs
    have h2 : t.lvs.length ≤ 199 := h.le
    simp [newLs]; omega⟩
theorem lby_flat {ns : List Nd} {key : Int} {t : HT} (h : PutOk ns key t) : (lby key t 0).length < 9 := by
  have key2 : ∀ (u : HT) (lv : Nat), Sh lv u → u.lvs.Pairwise (fun a b => hsI a.k ≠ hsI b.k) → (∃ q, ∀ y ∈ u.lvs, pas y.k lv = q) → (lby key u lv).length ≤ 1 := by
    intro u
    induction u with
    | nil => intro lv _ _ _; simp [lby]
    | leaf x => intro lv _ _ _; simp [lby]
    | clash r p ls =>
      rintro lv ⟨rfl, h2, _, _⟩ hne ⟨q, hq⟩
      exfalso
      match ls, h2, hne, hq with
      | a :: b :: l, _, hne, hq =>
        have h1 := hq a (by simp [HT.lvs])
        have h3 := hq b (by simp [HT.lvs])
        rw [pas_all] at h1 h3
        exact (List.pairwise_cons.1 hne).1 b (by simp) (h1.trans h3.symm)
    | trie r p a b c d iha ihb ihc ihd =>
      rintro lv ⟨_, _, ⟨d0, d1, d2, d3⟩, s0, s1, s2, s3⟩ hne ⟨q, hq⟩
      simp only [HT.lvs, List.pairwise_append] at hne
      simp only [HT.lvs, List.mem_append] at hq
      have hp : ∀ (u : HT) (i : Int), Dg lv i u → (∀ y ∈ u.lvs, pas y.k lv = q) → ∃ q, ∀ y ∈ u.lvs, pas y.k (lv + 1) = q := fun u i hd hu => ⟨q + i * (4 : Int) ^ lv, fun y hy => by rw [pas_succ, hu y hy, hd y hy]⟩
      simp only [lby]
      split
      · exact iha _ s0 hne.1 (hp a 0 d0 fun y hy => hq y (.inl hy))
      split
      · exact ihb _ s1 hne.2.1.1 (hp b 1 d1 fun y hy => hq y (.inr (.inl hy)))
      split
      · exact ihc _ s2 hne.2.1.2.1.1 (hp c 2 d2 fun y hy => hq y (.inr (.inr (.inl hy))))
      · exact ihd _ s3 hne.2.1.2.1.2.1 (hp d 3 d3 fun y hy => hq y (.inr (.inr (.inr hy))))
  have := key2 t 0 h.tr.sh h.ne ⟨0, fun y _ => pas_zero _⟩
  omega

set_option maxHeartbeats 8000000 in
set_option maxRecDepth 100000 in
theorem htPut_is (A B : Option Addr) (n m c d : Nat) (ns : List Nd) (fs : List Int) (t : HT) (key v : Int) (w : World) (h : Ar w A n B m ns fs) (hn : n ≤ 1000) (hm : m ≤ 1000) (hmay : ArMay ns fs) (hP : PutOk ns key t) (hf : 11 ≤ fs.length) :
    Calls Try.prog 11 #[.agg #[.slice A n c, .slice B m d], .int .u64 t.ref, .int .i64 key, .int .i64 v] w (PutH ns fs t key v w) := by
  have hT := hP.tr
  obtain ⟨w1, hw1⟩ : ∃ w1, w1 = w.alloc (.cells #[.slice A n c, .slice B m d] 26) := ⟨_, rfl⟩
  obtain ⟨w4, hw4⟩ : ∃ w4, w4 = w1.alloc (.cells #[.slice none 0 0, .slice none 0 0] 26) := ⟨_, rfl⟩
  obtain ⟨B1, hx1, hs1⟩ := box_made hw1
  obtain ⟨B4, hx4, hs4⟩ := box_made hw4
  rw [hs1] at B4
  have HB1 := Lib.hid (B1.to hx4)
  have HB4 := Lib.hid B4
  have X4 := Lib.hid (hx1.step hx4)
  have H1 := Lib.hid hw1
  have H4 := Lib.hid hw4
  have k0 : w4.cell? ⟨w.heap.size, 0, none⟩ = some (.slice A n c) := (B1.to hx4).cell 0
  have k1 : w4.cell? ⟨w.heap.size, 1, none⟩ = some (.slice B m d) := (B1.to hx4).cell 1
  have hle := hP.le
  have HR := Lib.hid (fun W (hW : Ext w W) => htRight_is A B n c m d ns fs t.ref W (h.to hW) hn hm hT.u true (by simp only [true_iff]; exact ⟨hmay, tr_at hT (by omega)⟩))
  have HH := Lib.hid (fun W (hW : Ext w W) => htHas_is A B n c m d ns h.ok t hT.rp hT.sh key W (h.nodes.to hW) hT.u)
  have HFu := Lib.hid (fun W (hW : Ext w W) => htFull_is A B n c m d ns h.ok t hT.rp hT.sh key W (h.nodes.to hW) hT.u (by omega) (lby_flat hP))
  obtain ⟨hb, hhb⟩ : ∃ hb, hb = hasL key t.lvs := ⟨_, rfl⟩
  rw [← hhb] at HH
  have HOf := Lib.hid (fun W (hW : Ext w W) => htOf_is A B n m c d ns fs W (h.to hW) hmay)
  have HMk := Lib.hid (fun b W (hM : Mk W b ns fs 0) => htMake_is b ns fs 0 (leafNd 0 key v) W hM ⟨by simp [leafNd], by simp [leafNd], ⟨by simp [leafNd], by simp [leafNd]⟩, ⟨by simp [leafNd], by simp [leafNd]⟩, fun r hr => by simp [leafNd, Nd.kids] at hr; rw [hr]; exact .inl rfl⟩ (fun r hr => by simp [leafNd, Nd.kids] at hr; rw [hr]; exact U.zero))
  have HWt := Lib.hid (fun b ns1 fs1 z (L : Option Addr) W (hM : Mk W b ns1 fs1 0) hO (hWG : WG ns1 key 0 t [z]) (hR : Rd W 1 L 1 (Us [z.r])) (hf1 : 10 ≤ fs1.length) => htWth_is t 0 b ns1 fs1 key [z] L 1 1 W hM hO hWG hR (by omega) (by omega))
  have HPK := Lib.hid hP
  have HF := Lib.hid hf
  have hlo : ¬ key < -1073741824 := by have := hP.lo; omega
  have hhi : ¬ 1073741824 < key := by have := hP.hi; omega
  clear hw1 hw4 B1 B4 hx1 hx4 hs1 hs4 h hmay hT hhb hP hle hf
  obtain ⟨r, hr⟩ : ∃ r, r = t.ref := ⟨_, rfl⟩
  rw [← hr] at HR HH HFu HWt ⊢
  clear hr
  go_enter Try.func11, Try.ntmps11
  go_upto_region 1 with fail
  rw [← H1.out, ← H4.out]
  go_wp2_with fail
  refine (HR.out _ X4.out).mono ?_; rintro e w5 ⟨rfl, hx5⟩
  have k0' := hx5.cellOf k0
  have k1' := hx5.cellOf k1
  have X5 := Lib.hid (X4.out.step hx5)
  have HB5 := Lib.hid (HB4.out.to hx5)
  clear k0 k1
  go_wp2_with fail
  refine (HH.out _ X5.out).mono ?_; rintro e w6 ⟨rfl, hx6⟩
  have k0 := hx6.cellOf k0'
  have k1 := hx6.cellOf k1'
  have X6 := Lib.hid (X5.out.step hx6)
  have HB6 := Lib.hid (HB5.out.to hx6)
  clear hx6 k0' k1' hx5
  have HMID : ∃ P : World → Prop, True := ⟨fun _ => True, trivial⟩
  cases hb with
  | false =>
    go_wp2_with fail
    refine (HFu.out _ X6.out).mono ?_; rintro e w7 ⟨rfl, hx7⟩
    have k0' := hx7.cellOf k0
    have k1' := hx7.cellOf k1
    have X7 := Lib.hid (X6.out.step hx7)
    have HB7 := Lib.hid (HB6.out.to hx7)
    clear hx7 k0 k1
    go_wp2_with fail
    refine (HOf.out _ X7.out).mono ?_; rintro e w8 ⟨b, rfl, hb8, hM8, hO8, hx8⟩
    obtain ⟨w8b, hw9⟩ : ∃ w9, w9 = w8.alloc (.cells #[.pointer (some ⟨b, 0, none⟩)] 62) := ⟨_, rfl⟩
    obtain ⟨B9, hx9, hs9⟩ := box_made hw9
    have H9 := Lib.hid hw9
    have HM9 := Lib.hid (hM8.to hx9)
    have HO9 := Lib.hid (hO8.ext hx9 hM8.lt)
    have X9' := Lib.hid (X7.out.step (hx8.step hx9))
    have HBM := Lib.hid B9
    have HBR' := Lib.hid (HB7.out.to (hx8.step hx9))
    have hge := Lib.hid (show w.heap.size + 2 ≤ b ∧ b < w8.heap.size from ⟨by have := HB7.out.lt; omega, hM8.lt⟩)
    have k9' : w8b.cell? ⟨w8.heap.size, 0, none⟩ = some (.pointer (some ⟨b, 0, none⟩)) := B9.cell 0
    clear hw9 B9 hx9 hs9 hM8 hO8 hx8 k0' k1' hb8
    go_upto_region 6 with fail
    rw [← H9.out]
    go_wp2_with fail
    refine (HMk.out b _ HM9.out).mono ?_; rintro e w9 ⟨ns1, fs1, err1, z1, rfl, hm1, ho1, hg1, _, hu1, hgood, hbad, _, hf1⟩
    obtain rfl : err1 = 0 := by
      rcases hm1.err with rfl | rfl
      · rfl
      · rcases hbad rfl with h | h
        · cases h
        · have := HF.out; omega
    obtain ⟨_, p1, g1, hz1⟩ := hgood rfl
    have HWG := Lib.hid (HPK.out.wg (v := v) hg1.keep (z := z1) (p := p1) (g := g1) hz1 hu1)
    have HG1 := Lib.hid hg1
    have HM1 := Lib.hid hm1
    have hroom : 10 ≤ fs1.length := by have := hg1.few; have := HF.out; omega
    have HRoom := Lib.hid hroom
    have HOb1 := Lib.hid (hm1.old (by omega))
    have hbr := ho1.bx HBR'.out (by have := hge.out; omega)
    have HBR := Lib.hid hbr
    have hbmx := ho1.bx HBM.out (by have := hge.out; omega)
    have HBM1 := Lib.hid hbmx
    have X9 := Lib.hid (show Ext w w9 from ho1.new X9'.out (by have := hge.out; omega))
    have k9 : w9.cell? ⟨w8.heap.size, 0, none⟩ = some (.pointer (some ⟨b, 0, none⟩)) := hbmx.cell 0
    have HBR1 := HBR
    clear hm1 ho1 hg1 hu1 hgood hbad hf1 hz1 hroom hbr hbmx k9'
    go_upto_region 7 with fail
    have HS9 := Lib.hid (show ∀ W, Ext w9 W → W.cell? ⟨w8.heap.size, 0, none⟩ = some (.pointer (some ⟨b, 0, none⟩)) from fun W hW => hW.cellOf k9)
    have HNE := Lib.hid (show w8.heap.size ≠ w.heap.size + 1 by have := hge.out; omega)
    go_region_held3 (fun W => W.cell? ⟨w8.heap.size, 0, none⟩ = some (.pointer (some ⟨b, 0, none⟩))) (first | exact (((Only.refl (w.heap.size + 1) w11).set 0 (.slice A' n' c')).set 1 (.slice B' m' d')).cellOf hs7 HNE.out | exact hs8 | exact hs7 | (refine HS9.out _ ?_; (repeat (first | exact Ext.refl _ | assumption | with_reducible refine Ext.drew ?_ | with_reducible refine Ext.new ?_ _)); done)) (first
      | (go_at_call 23; refine (HWt.out b ns1 fs1 ⟨z1, p1, key, v⟩ _ _ (HM1.out.to ?_) (HOb1.out.ext ?_ HM1.out.lt) HWG.out ((Rd.lit w9 #[.int .u64 z1] 31 1 rfl).to (Ext.refl _).drew) HRoom.out).mono ?_
         · repeat (first | exact Ext.refl _ | with_reducible refine Ext.drew ?_ | with_reducible refine Ext.new ?_ _)
         · repeat (first | exact Ext.refl _ | with_reducible refine Ext.drew ?_ | with_reducible refine Ext.new ?_ _)
         rintro e w10 hno'
         obtain ⟨z, rfl, hno⟩ := hno'.split
         have hs8 : w10.cell? ⟨w8.heap.size, 0, none⟩ = some (.pointer (some ⟨b, 0, none⟩)) := hno.out.only.cellOf (HS9.out _ (by repeat (first | exact Ext.refl _ | with_reducible refine Ext.drew ?_ | with_reducible refine Ext.new ?_ _))) (by have := hge.out; show w8.heap.size ≠ b; omega)
         obtain ⟨ns', fs', z', hz', hm', ho', hg', hu', hf', t', ht', hr', hp'⟩ := hno.out
         have HM10 := Lib.hid hm'
         have HO10 := Lib.hid ho'
         have HG10 := Lib.hid hg'
         have HT10 := Lib.hid ht'
         have HR10 := Lib.hid (show t'.ref = z by rw [hr']; injection hz' with h1; injection h1 with _ h2; exact h2.symm)
         have HP10 := Lib.hid hp'
         clear hz' hm' ho' hg' hu' hf' ht' hr' hp' hno hno')
      | (go_at_call 22; refine (htAnswer_is b ns' fs' 0 z _ HM10.out).mono ?_
         rintro e w11 ⟨hq', hx11⟩
         have hq : ∃ (A' : Option Addr) (n' c' : Nat) (B' : Option Addr) (m' d' : Nat), e = .returned (.tuple #[.agg #[.slice A' n' c', .slice B' m' d'], .int .u64 z, .int .i64 0]) ∧ Hid (Ar w11 A' n' B' m' ns' fs') := by
           rcases hq' with ⟨h0, _⟩ | ⟨_, A', n', c', B', m', d', h1, h2⟩
           · cases h0
           · exact ⟨A', n', c', B', m', d', h1, Lib.hid h2⟩
         obtain ⟨A', n', c', B', m', d', rfl, har⟩ := hq
         have hs7 : w11.cell? ⟨w8.heap.size, 0, none⟩ = some (.pointer (some ⟨b, 0, none⟩)) := hx11.cellOf hs8
         have hrb := (HO10.out.bx (HBR.out.to (by repeat (first | exact Ext.refl _ | with_reducible refine Ext.drew ?_ | with_reducible refine Ext.new ?_ _))) (by have := hge.out; omega)).to hx11
         have HRB := Lib.hid hrb
         have y0 : w11.cell? ⟨w.heap.size + 1, 0, none⟩ = some (.slice none 0 0) := hrb.cell 0
         have y1 : w11.cell? ⟨w.heap.size + 1, 1, none⟩ = some (.slice none 0 0) := hrb.cell 1
         have y2 : w11.frozen? ⟨w.heap.size + 1, 0, none⟩ = false := hrb.free 0
         have y3 : w11.frozen? ⟨w.heap.size + 1, 1, none⟩ = false := hrb.free 1
         have HX11 := Lib.hid hx11
         clear hrb hq' hx11))
    all_goals
      have hnos := HRB.out.noS (fun j z e => by
        rcases (by omega : j = 0 ∨ j = 1 ∨ 2 ≤ j) with rfl | rfl | h
        · cases e
        · cases e
        · rw [Array.getElem?_eq_none (by simpa using h)] at e; cases e)
      have HFIN := Lib.hid (show PutH ns fs t key v w (.returned (.tuple #[.agg #[.slice A' n' c', .slice B' m' d'], .int .u64 z, .int .i64 0])) ((w11.setCell ⟨w.heap.size + 1, 0, none⟩ (.slice A' n' c')).setCell ⟨w.heap.size + 1, 1, none⟩ (.slice B' m' d')) from
        ⟨A', n', c', B', m', d', ns', fs', z, t', rfl, har.out.stepS (Only.two w11 _ _ _) hnos, HM10.out.may, HG1.out.trans HG10.out, HT10.out, HR10.out, by have h9 := HP10.out.map Lf.it; rw [show t'.lvs.map Lf.it = t'.row from rfl] at h9; refine h9.trans ?_; simp [newLs, Lf.it], (Only.two w11 _ _ _).new ((HO10.out.new (X9.out.step (by repeat (first | exact Ext.refl _ | with_reducible refine Ext.drew ?_ | with_reducible refine Ext.new ?_ _))) (by have := hge.out; omega)).step HX11.out) (by omega)⟩)
      have HB12 := Lib.hid (HRB.out.two (.slice A' n' c') (.slice B' m' d'))
      clear hnos y0 y1 y2 y3 hs7 hs8
      go_wp2_with fail
      refine bodyPost_ret (results_ar3 rfl _ _ (w.heap.size + 1) #[.slice A' n' c', .slice B' m' d'] (by rfl) HB12.out rfl) rfl ?_
      exact HFIN.out
  | true =>
    have k0' := k0
    have k1' := k1
    have X7 := X6
    have HB7 := HB6
    clear k0 k1
    go_wp2_with fail
    refine (HOf.out _ X7.out).mono ?_; rintro e w8 ⟨b, rfl, hb8, hM8, hO8, hx8⟩
    obtain ⟨w8b, hw9⟩ : ∃ w9, w9 = w8.alloc (.cells #[.pointer (some ⟨b, 0, none⟩)] 62) := ⟨_, rfl⟩
    obtain ⟨B9, hx9, hs9⟩ := box_made hw9
    have H9 := Lib.hid hw9
    have HM9 := Lib.hid (hM8.to hx9)
    have HO9 := Lib.hid (hO8.ext hx9 hM8.lt)
    have X9' := Lib.hid (X7.out.step (hx8.step hx9))
    have HBM := Lib.hid B9
    have HBR' := Lib.hid (HB7.out.to (hx8.step hx9))
    have hge := Lib.hid (show w.heap.size + 2 ≤ b ∧ b < w8.heap.size from ⟨by have := HB7.out.lt; omega, hM8.lt⟩)
    have k9' : w8b.cell? ⟨w8.heap.size, 0, none⟩ = some (.pointer (some ⟨b, 0, none⟩)) := B9.cell 0
    clear hw9 B9 hx9 hs9 hM8 hO8 hx8 k0' k1' hb8
    go_upto_region 6 with fail
    rw [← H9.out]
    go_wp2_with fail
    refine (HMk.out b _ HM9.out).mono ?_; rintro e w9 ⟨ns1, fs1, err1, z1, rfl, hm1, ho1, hg1, _, hu1, hgood, hbad, _, hf1⟩
    obtain rfl : err1 = 0 := by
      rcases hm1.err with rfl | rfl
      · rfl
      · rcases hbad rfl with h | h
        · cases h
        · have := HF.out; omega
    obtain ⟨_, p1, g1, hz1⟩ := hgood rfl
    have HWG := Lib.hid (HPK.out.wg (v := v) hg1.keep (z := z1) (p := p1) (g := g1) hz1 hu1)
    have HG1 := Lib.hid hg1
    have HM1 := Lib.hid hm1
    have hroom : 10 ≤ fs1.length := by have := hg1.few; have := HF.out; omega
    have HRoom := Lib.hid hroom
    have HOb1 := Lib.hid (hm1.old (by omega))
    have hbr := ho1.bx HBR'.out (by have := hge.out; omega)
    have HBR := Lib.hid hbr
    have hbmx := ho1.bx HBM.out (by have := hge.out; omega)
    have HBM1 := Lib.hid hbmx
    have X9 := Lib.hid (show Ext w w9 from ho1.new X9'.out (by have := hge.out; omega))
    have k9 : w9.cell? ⟨w8.heap.size, 0, none⟩ = some (.pointer (some ⟨b, 0, none⟩)) := hbmx.cell 0
    have HBR1 := HBR
    clear hm1 ho1 hg1 hu1 hgood hbad hf1 hz1 hroom hbr hbmx k9'
    go_upto_region 7 with fail
    have HS9 := Lib.hid (show ∀ W, Ext w9 W → W.cell? ⟨w8.heap.size, 0, none⟩ = some (.pointer (some ⟨b, 0, none⟩)) from fun W hW => hW.cellOf k9)
    have HNE := Lib.hid (show w8.heap.size ≠ w.heap.size + 1 by have := hge.out; omega)
    go_region_held3 (fun W => W.cell? ⟨w8.heap.size, 0, none⟩ = some (.pointer (some ⟨b, 0, none⟩))) (first | exact (((Only.refl (w.heap.size + 1) w11).set 0 (.slice A' n' c')).set 1 (.slice B' m' d')).cellOf hs7 HNE.out | exact hs8 | exact hs7 | (refine HS9.out _ ?_; (repeat (first | exact Ext.refl _ | assumption | with_reducible refine Ext.drew ?_ | with_reducible refine Ext.new ?_ _)); done)) (first
      | (go_at_call 23; refine (HWt.out b ns1 fs1 ⟨z1, p1, key, v⟩ _ _ (HM1.out.to ?_) (HOb1.out.ext ?_ HM1.out.lt) HWG.out ((Rd.lit w9 #[.int .u64 z1] 31 1 rfl).to (Ext.refl _).drew) HRoom.out).mono ?_
         · repeat (first | exact Ext.refl _ | with_reducible refine Ext.drew ?_ | with_reducible refine Ext.new ?_ _)
         · repeat (first | exact Ext.refl _ | with_reducible refine Ext.drew ?_ | with_reducible refine Ext.new ?_ _)
         rintro e w10 hno'
         obtain ⟨z, rfl, hno⟩ := hno'.split
         have hs8 : w10.cell? ⟨w8.heap.size, 0, none⟩ = some (.pointer (some ⟨b, 0, none⟩)) := hno.out.only.cellOf (HS9.out _ (by repeat (first | exact Ext.refl _ | with_reducible refine Ext.drew ?_ | with_reducible refine Ext.new ?_ _))) (by have := hge.out; show w8.heap.size ≠ b; omega)
         obtain ⟨ns', fs', z', hz', hm', ho', hg', hu', hf', t', ht', hr', hp'⟩ := hno.out
         have HM10 := Lib.hid hm'
         have HO10 := Lib.hid ho'
         have HG10 := Lib.hid hg'
         have HT10 := Lib.hid ht'
         have HR10 := Lib.hid (show t'.ref = z by rw [hr']; injection hz' with h1; injection h1 with _ h2; exact h2.symm)
         have HP10 := Lib.hid hp'
         clear hz' hm' ho' hg' hu' hf' ht' hr' hp' hno hno')
      | (go_at_call 22; refine (htAnswer_is b ns' fs' 0 z _ HM10.out).mono ?_
         rintro e w11 ⟨hq', hx11⟩
         have hq : ∃ (A' : Option Addr) (n' c' : Nat) (B' : Option Addr) (m' d' : Nat), e = .returned (.tuple #[.agg #[.slice A' n' c', .slice B' m' d'], .int .u64 z, .int .i64 0]) ∧ Hid (Ar w11 A' n' B' m' ns' fs') := by
           rcases hq' with ⟨h0, _⟩ | ⟨_, A', n', c', B', m', d', h1, h2⟩
           · cases h0
           · exact ⟨A', n', c', B', m', d', h1, Lib.hid h2⟩
         obtain ⟨A', n', c', B', m', d', rfl, har⟩ := hq
         have hs7 : w11.cell? ⟨w8.heap.size, 0, none⟩ = some (.pointer (some ⟨b, 0, none⟩)) := hx11.cellOf hs8
         have hrb := (HO10.out.bx (HBR.out.to (by repeat (first | exact Ext.refl _ | with_reducible refine Ext.drew ?_ | with_reducible refine Ext.new ?_ _))) (by have := hge.out; omega)).to hx11
         have HRB := Lib.hid hrb
         have y0 : w11.cell? ⟨w.heap.size + 1, 0, none⟩ = some (.slice none 0 0) := hrb.cell 0
         have y1 : w11.cell? ⟨w.heap.size + 1, 1, none⟩ = some (.slice none 0 0) := hrb.cell 1
         have y2 : w11.frozen? ⟨w.heap.size + 1, 0, none⟩ = false := hrb.free 0
         have y3 : w11.frozen? ⟨w.heap.size + 1, 1, none⟩ = false := hrb.free 1
         have HX11 := Lib.hid hx11
         clear hrb hq' hx11))
    all_goals
      have hnos := HRB.out.noS (fun j z e => by
        rcases (by omega : j = 0 ∨ j = 1 ∨ 2 ≤ j) with rfl | rfl | h
        · cases e
        · cases e
        · rw [Array.getElem?_eq_none (by simpa using h)] at e; cases e)
      have HFIN := Lib.hid (show PutH ns fs t key v w (.returned (.tuple #[.agg #[.slice A' n' c', .slice B' m' d'], .int .u64 z, .int .i64 0])) ((w11.setCell ⟨w.heap.size + 1, 0, none⟩ (.slice A' n' c')).setCell ⟨w.heap.size + 1, 1, none⟩ (.slice B' m' d')) from
        ⟨A', n', c', B', m', d', ns', fs', z, t', rfl, har.out.stepS (Only.two w11 _ _ _) hnos, HM10.out.may, HG1.out.trans HG10.out, HT10.out, HR10.out, by have h9 := HP10.out.map Lf.it; rw [show t'.lvs.map Lf.it = t'.row from rfl] at h9; refine h9.trans ?_; simp [newLs, Lf.it], (Only.two w11 _ _ _).new ((HO10.out.new (X9.out.step (by repeat (first | exact Ext.refl _ | with_reducible refine Ext.drew ?_ | with_reducible refine Ext.new ?_ _))) (by have := hge.out; omega)).step HX11.out) (by omega)⟩)
      have HB12 := Lib.hid (HRB.out.two (.slice A' n' c') (.slice B' m' d'))
      clear hnos y0 y1 y2 y3 hs7 hs8
      go_wp2_with fail
      refine bodyPost_ret (results_ar3 rfl _ _ (w.heap.size + 1) #[.slice A' n' c', .slice B' m' d'] (by rfl) HB12.out rfl) rfl ?_
      exact HFIN.out

end Go.Proofs.Ytfoifcbaadnigaa
