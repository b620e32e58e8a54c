/-
  Contract: the table of leaves (table), of a maker that has room, where no two hashes are alike.
-/
import Derived.Test.YtfoifcbaadnigaaHtTableM
import Derived.Test.YtfoifcbaadnigaaHtDig
set_option linter.unusedVariables false
set_option linter.unusedSimpArgs false
namespace Go.Proofs.Ytfoifcbaadnigaa
open Go.RowKit

/-- The table that is answered. -/
def TabG (lv : Nat) (ls : List Lf) (ns' : List Nd) (z : Int) : Prop := ∃ t, Tr ns' lv t ∧ t.ref = z ∧ t.lvs.Perm ls
def TabF (f lv : Nat) : Prop :=
  ∀ (b : Nat) (ns : List Nd) (fs : List Int) (ls : List Lf) (S : Option Addr) (n c : Nat) (w : World), Mk w b ns fs 0 → Rd w 1 S n (Us (ls.map Lf.r)) → ls.length ≤ 9 → Good ns lv ls → ctF f lv ls ≤ fs.length →
    Calls Try.prog 47 #[.agg #[.pointer (some ⟨b, 0, none⟩)], .int .i64 lv, .slice S n c] w (TOut b ns fs (ctF f lv ls) (TabG lv ls) w)

set_option maxHeartbeats 2000000 in
set_option maxRecDepth 100000 in
/-- None, or one. -/
theorem htTable_few (f lv : Nat) (hlv : lv ≤ 10) (b : Nat) (ns : List Nd) (fs : List Int) (ls : List Lf) (S : Option Addr) (n c : Nat) (w : World) (h : Mk w b ns fs 0) (hS : Rd w 1 S n (Us (ls.map Lf.r))) (hl : ls.length ≤ 1) (hg : Good ns lv ls) :
    Calls Try.prog 47 #[.agg #[.pointer (some ⟨b, 0, none⟩)], .int .i64 lv, .slice S n c] w (TOut b ns fs (ctF f lv ls) (TabG lv ls) w) := by
  have hn : ls.length = n := by have := hS.u64len; simpa using this
  have X1 := Lib.hid ((Ext.refl w).new (.cells #[.pointer (some ⟨b, 0, none⟩)] 62))
  match ls, hl, hn, hS, hg with
  | [], _, hn, hS, hg =>
    simp at hn
    subst hn
    have HF := Lib.hid (show ∀ W, Ext w W → TOut b ns fs (ctF f lv []) (TabG lv []) w (.returned (.int .u64 0)) W from fun W hW => ⟨ns, fs, 0, rfl, h.to hW, (Only.refl b w).ext hW, Gr.refl _ _ _, U.zero, FarTo.ext hW h.lt, .nil, ⟨trivial, trivial, U.zero⟩, rfl, List.Perm.refl _⟩)
    clear h hS hg
    go_enter Try.func47, Try.ntmps47
    go_wp2_with fail
    go_ret
    exact HF.out _ X1.out
  | [y], _, hn, hS, hg =>
    simp at hn
    subst hn
    have HF := Lib.hid (show ∀ W, Ext w W → TOut b ns fs (ctF f lv [y]) (TabG lv [y]) w (.returned (.int .u64 y.r)) W from fun W hW => ⟨ns, fs, y.r, rfl, h.to hW, (Only.refl b w).ext hW, Gr.refl _ _ _, hg.u y (by simp), FarTo.ext hW h.lt, .leaf y, ⟨hg.lf y (by simp), trivial, hg.u y (by simp)⟩, rfl, List.Perm.refl _⟩)
    obtain ⟨ad, rfl⟩ := hS.some_ (by omega) (by omega)
    have q0 : w.cell? ad = some (.int .u64 y.r) := by have := hS.u64 (j := 0) (by omega); simpa [Addr.add, ith] using this
    have q1 : (w.alloc (.cells #[.pointer (some ⟨b, 0, none⟩)] 62)).cell? ad = some (.int .u64 y.r) := X1.out.cellOf q0
    clear h hS hg
    go_enter Try.func47, Try.ntmps47
    go_wp2_with fail
    go_ret
    exact HF.out _ X1.out

/-- What stands of the second loop behind k digits. -/
structure Rec4 (w : World) (b b3 b11 : Nat) (ns : List Nd) (fs : List Int) (lv : Nat) (ls : List Lf) (f k : Nat) (W : World) (ns' : List Nd) (fs' : List Int) (tt : Nat → HT) (c : Nat) : Prop where
  mkr : Mk W b ns' fs' 0
  only : Only b w W
  far : FarTo b w W
  gr : Gr ns fs ns' fs' c
  m3 : Bx W b3 #[.pointer (some ⟨b, 0, none⟩)]
  box : Bx W b11 (arr4 (fun i => .int .u64 (tt i).ref))
  tr : ∀ i : Nat, i < 4 → Tr ns' (lv + 1) (tt i)
  is : ∀ i : Nat, i < k → (tt i).lvs.Perm (ofL ls lv i)
  no : ∀ i : Nat, k ≤ i → tt i = .nil
  cost : c + (if k = 0 then ctF f (lv + 1) (ofL ls lv 0) + (ctF f (lv + 1) (ofL ls lv 1) + (ctF f (lv + 1) (ofL ls lv 2) + ctF f (lv + 1) (ofL ls lv 3))) else if k = 1 then ctF f (lv + 1) (ofL ls lv 1) + (ctF f (lv + 1) (ofL ls lv 2) + ctF f (lv + 1) (ofL ls lv 3)) else if k = 2 then ctF f (lv + 1) (ofL ls lv 2) + ctF f (lv + 1) (ofL ls lv 3) else if k = 3 then ctF f (lv + 1) (ofL ls lv 3) else 0) + 1 = ctF (f + 1) lv ls

theorem arr4_upd (tt : Nat → HT) {k : Nat} (hk : k < 4) (t : HT) : (arr4 (fun i => .int .u64 (tt i).ref)).setIfInBounds k (.int .u64 t.ref) = arr4 (fun i => .int .u64 (upd tt k t i).ref) := by
  rw [arr4_set _ hk]
  congr 1
  funext i
  simp only [upd]
  split <;> rfl
theorem Rec4.push {w : World} {b b3 b11 : Nat} {ns : List Nd} {fs : List Int} {lv : Nat} {ls : List Lf} {f k : Nat} {W W6 : World} {ns' : List Nd} {fs' : List Int} {tt : Nat → HT} {c : Nat} (h : Rec4 w b b3 b11 ns fs lv ls f k W ns' fs' tt c) (hk : k < 4) (h3 : w.heap.size ≤ b3) (h11 : w.heap.size ≤ b11) (h31 : b11 ≠ b3) (hbw : b < w.heap.size)
    {ns'' : List Nd} {fs'' : List Int} {t : HT} (hm : Mk W6 b ns'' fs'' 0) (ho : Only b W W6) (hfr : FarTo b W W6) (hg : Gr ns' fs' ns'' fs'' (ctF f (lv + 1) (ofL ls lv k))) (ht : Tr ns'' (lv + 1) t) (hp : t.lvs.Perm (ofL ls lv k)) :
    Rec4 w b b3 b11 ns fs lv ls f (k + 1) (W6.setCell ⟨b11, k, none⟩ (.int .u64 t.ref)) ns'' fs'' (upd tt k t) (c + ctF f (lv + 1) (ofL ls lv k)) := by
  have os : Only b11 W6 (W6.setCell ⟨b11, k, none⟩ (.int .u64 t.ref)) := (Only.refl b11 W6).set _ _
  have bx := ho.bx h.box (by omega)
  refine ⟨hm.stepS os (bx.noS (arr4_noS _)) (by omega), ?_, ((h.far.trans hfr h.only.size).trans (FarTo.only os (by omega) hm.lt) (Nat.le_trans h.only.size ho.size)), h.gr.trans hg, os.bx (ho.bx h.m3 (by omega)) h31.symm, ?_, fun i hi => ?_, fun i hi => ?_, fun i hi => ?_, ?_⟩
  · have h1 := h.only.trans ho
    refine ⟨h1.os, h1.tape, h1.output, by simpa [World.setCell] using h1.size, fun j hj hn => (os.block j (Nat.lt_of_lt_of_le hj h1.size) (fun e => by injection e with e; omega)).trans (h1.block j hj hn)⟩
  · rw [← arr4_upd tt hk]
    exact bx.set (by simp [arr4]; exact hk) _
  · by_cases e : i = k
    · subst e; simpa [upd] using ht
    · simp only [upd, if_neg e]; exact (h.tr i hi).mono hg.keep
  · by_cases e : i = k
    · subst e; simpa [upd] using hp
    · simp only [upd, if_neg e]; exact h.is i (by omega)
  · simp only [upd, if_neg (by omega : ¬ i = k)]; exact h.no i (by omega)
  · have hc := h.cost
    rcases (by omega : k = 0 ∨ k = 1 ∨ k = 2 ∨ k = 3) with rfl | rfl | rfl | rfl <;> simp only [Nat.zero_add, Nat.reduceAdd, if_true, show ¬ (1 : Nat) = 0 from by decide, show ¬ (2 : Nat) = 0 from by decide, show ¬ (2 : Nat) = 1 from by decide, show ¬ (3 : Nat) = 0 from by decide, show ¬ (3 : Nat) = 1 from by decide, show ¬ (3 : Nat) = 2 from by decide, show ¬ (4 : Nat) = 0 from by decide, show ¬ (4 : Nat) = 1 from by decide, show ¬ (4 : Nat) = 2 from by decide, show ¬ (4 : Nat) = 3 from by decide, if_false, Int.ofNat_zero, Int.ofNat_one] at hc ⊢
    all_goals first | omega | (simp at hc ⊢; omega)
theorem Rec4.room {w : World} {b b3 b11 : Nat} {ns : List Nd} {fs : List Int} {lv : Nat} {ls : List Lf} {f k : Nat} {W : World} {ns' : List Nd} {fs' : List Int} {tt : Nat → HT} {c : Nat} (h : Rec4 w b b3 b11 ns fs lv ls f k W ns' fs' tt c) (hf : ctF (f + 1) lv ls ≤ fs.length) : (k < 4 → ctF f (lv + 1) (ofL ls lv k) ≤ fs'.length) ∧ 1 ≤ fs'.length := by
  have hc := h.cost
  have hg := h.gr.few
  refine ⟨fun hk => ?_, by omega⟩
  rcases (by omega : k = 0 ∨ k = 1 ∨ k = 2 ∨ k = 3) with rfl | rfl | rfl | rfl <;> simp at hc ⊢ <;> omega

set_option maxHeartbeats 8000000 in
set_option maxRecDepth 100000 in
theorem htTable_step (f lv : Nat) (hlv : lv + (f + 1) = 10) (HI : TabF f (lv + 1)) : TabF (f + 1) lv := by
  intro b ns fs ls S n c w h hS h9 hg hf
  by_cases hfew : ls.length ≤ 1
  · exact htTable_few (f + 1) lv (by omega) b ns fs ls S n c w h hS hfew hg
  have hn : ls.length = n := by have := hS.u64len; simpa using this
  obtain ⟨A, nA, cA, B, m, d, hb, ha, hA, hB⟩ := h.box
  obtain ⟨w1, hw1⟩ : ∃ w1, w1 = w.alloc (.cells #[.pointer (some ⟨b, 0, none⟩)] 62) := ⟨_, rfl⟩
  obtain ⟨B1, hx1, hs1⟩ := box_made hw1
  obtain ⟨w2, hw2⟩ : ∃ w2, w2 = w1.alloc (.cells #[.slice none 0 0, .slice none 0 0, .slice none 0 0, .slice none 0 0] 106) := ⟨_, rfl⟩
  obtain ⟨B2, hx2, hs2⟩ := box_made hw2
  rw [hs1] at B2
  have H1 := Lib.hid hw1
  have H2 := Lib.hid hw2
  have X2 := Lib.hid (hx1.step hx2)
  have HB1 := Lib.hid (B1.to hx2)
  have HR0 := Lib.hid (show R4 w2 (w.heap.size + 2) (w.heap.size + 1) (fun _ => .slice none 0 0) (fun i : Nat => (ofL (ls.take 0) lv i).map Lf.r) from ⟨B2, fun i _ => World.ownsRow_nil _ _ _ _, fun _ _ _ _ _ => .inl rfl, fun _ _ => by simp [Value.ownBlock]⟩)
  have HMk := Lib.hid h
  have HS := Lib.hid hS
  have HG := Lib.hid hg
  have HF := Lib.hid hf
  have HBb := Lib.hid hb
  have HNA := Lib.hid ha
  have HN := Lib.hid hn
  have hn9 : n ≤ 9 := by omega
  have hn2 : 2 ≤ n := by omega
  have hn1 : ¬ n = 0 := by omega
  have hn0 : ¬ n = 1 := by omega
  have hne0 : ((n : Int) == 0) = false := by simp; omega
  have hne1 : ((n : Int) == 1) = false := by simp; omega
  have hne10 : ((lv : Int) == 10) = false := by simp; omega
  have hlv10 : lv < 10 := by omega
  obtain ⟨i0, hi0, hz0, hz1, hz2⟩ := info_parts ref_inf
  have hbw := Lib.hid hb.lt
  clear hw1 B1 hx1 hs1 hw2 B2 hx2 hs2 h hS hg hf hb ha hA hB hn hfew h9
  go_enter Try.func47, Try.ntmps47
  go_wp2_with fail
  rw [← H1.out, ← H2.out]
  go_loopw [43, 9, 10] (fun j _ _ wr => Hid (Ext w wr) ∧ Hid (Bx wr w.heap.size #[.pointer (some ⟨b, 0, none⟩)]) ∧ ∃ k : Nat, k ≤ n ∧ j = .int .i64 k ∧ ∃ F : Nat → Value, Hid (R4 wr (w.heap.size + 2) (w.heap.size + 1) F (fun i : Nat => (ofL (ls.take k) lv i).map Lf.r)) ∧ Hid (w.heap.size + 2 ≤ wr.heap.size)) (fun j _ _ _ => n - (intOf j).toNat)
  case atStart => exact ⟨X2, HB1, 0, by omega, rfl, _, HR0, Lib.hid (by have := HR0.out.box.lt; omega)⟩
  case round =>
    obtain ⟨hx, hb1, k, hk, rfl, F, hR, hsz⟩ := hrel
    rename World => w5
    by_cases hkn : k < n
    · obtain ⟨y, hy⟩ : ∃ y, ls[k]? = some y := ⟨_, List.getElem?_eq_getElem (by have := HN.out; omega)⟩
      have hym : y ∈ ls := List.mem_of_getElem? hy
      obtain ⟨ad, rfl⟩ := HS.out.some_ (by omega) (by omega)
      have c0 : w5.cell? (ad.add k) = some (.int .u64 y.r) := by
        have := (HS.out.to hx.out).u64 hkn
        rw [this]
        simp [ith, List.getD_eq_getElem?_getD, hy]
      have hUy := HG.out.u y hym
      have HK := Lib.hid (fun W (hW : Ext w5 W) => htKey_is A B nA cA m d ns y.r W hUy.1 hUy.2 (HNA.out.nodes.to (hx.out.step hW)))
      obtain ⟨gy, ey⟩ := (HG.out.lf y hym).nodeF
      rw [show (nodeF ns y.r).n = y.k by rw [ey]; rfl] at HK
      obtain ⟨dd, hdd, hd4⟩ : ∃ dd : Nat, dig y.k lv = dd ∧ dd < 4 := by
        have := dig_rng y.k lv
        exact ⟨(dig y.k lv).toNat, by omega, by omega⟩
      have HDg := Lib.hid (fun W => htDigit_is y.k lv (by omega) W)
      rw [hdd] at HDg
      have e0 : w5.cell? ⟨w.heap.size, 0, none⟩ = some (.pointer (some ⟨b, 0, none⟩)) := hb1.out.cell 0
      have e1 : w5.cell? ⟨b, 0, none⟩ = some (.slice A nA cA) := (HBb.out.to hx.out).cell 0
      have e2 : w5.cell? ⟨b, 1, none⟩ = some (.slice B m d) := (HBb.out.to hx.out).cell 1
      have HPM := Lib.hid (parts_map hy lv hdd)
      obtain ⟨z, hz⟩ : ∃ z, z = y.r := ⟨_, rfl⟩
      rw [← hz] at c0 HK HPM
      have hX5 := hx
      have hnk : ¬ n ≤ k := by omega
      have hd5 : ¬ 4 ≤ dd := by omega
      have hd6 : (dd : Int) < 4 := by omega
      have HRR := hR
      have hB5 := hb1
      have hSZ := hsz
      clear hx hy hym hUy ey hdd hR hz hb1 hsz
      obtain ⟨key, hkey⟩ : ∃ key, key = y.k := ⟨_, rfl⟩
      rw [← hkey] at HK HDg
      clear hkey
      go_upto_region 13 with (first
        | (go_at_call 40; refine (HK.out _ (Ext.refl _)).mono ?_; rintro e w6 ⟨rfl, hx6⟩)
        | (go_at_call 43; refine (HDg.out _).mono ?_; rintro e w7 ⟨rfl, hx7⟩))
      have X7 := Lib.hid (hx6.step hx7)
      obtain ⟨w8, hw8⟩ : ∃ w8, w8 = w7.alloc (.cells #[.int .u64 z] 31) := ⟨_, rfl⟩
      have hx8 : Ext w7 w8 := by rw [hw8]; exact (Ext.refl _).new _
      have HRd := Lib.hid (show Rd w8 1 (some ⟨w7.heap.size, 0, none⟩) 1 [.int .u64 z] by rw [hw8]; exact Rd.lit w7 #[.int .u64 z] 31 1 rfl)
      have R8 := Lib.hid (HRR.out.to (X7.out.step hx8))
      obtain ⟨P, hP⟩ : ∃ P, P = (fun i : Nat => (ofL (ls.take k) lv i).map Lf.r) := ⟨_, rfl⟩
      rw [← hP] at R8 HRR
      have HPM' := Lib.hid (show (fun i : Nat => (ofL (ls.take (k + 1)) lv i).map Lf.r) = upd P dd (P dd ++ [z]) by rw [HPM.out, hP])
      have hq9 : (P dd).length ≤ 9 := by
        rw [hP]
        have h1 := ofL_le (ls.take k) lv dd
        have h2 : (ls.take k).length ≤ k := List.length_take_le _ _
        simp only [List.length_map]; omega
      obtain ⟨q, hq⟩ : ∃ q, q = (P dd).length := ⟨_, rfl⟩
      obtain ⟨Us0, hUs0⟩ : ∃ u, u = Us (P dd) := ⟨_, rfl⟩
      have HO8 := R8.out.own dd hd4
      rw [← hq, ← hUs0] at HO8
      obtain ⟨fv, hfv⟩ : ∃ fv, fv = F dd := ⟨_, rfl⟩
      rw [← hfv] at HO8
      obtain ⟨Af, cf, hfs⟩ := own_slice HO8
      have v0 : w7.cell? ⟨w.heap.size + 1, dd, none⟩ = some (.slice Af q cf) := by rw [← hfs, hfv, ← arr4_get F hd4]; exact (HRR.out.to X7.out).box.cell dd
      rw [hfs] at HO8 hfv
      have HO9 := Lib.hid HO8
      have HFV := Lib.hid hfv
      have HQ := Lib.hid (And.intro hq hUs0)
      rw [← hq] at hq9
      have h8s : w.heap.size + 2 ≤ w8.heap.size := by have := hSZ.out; have := X7.out.size; have := hx8.size; omega
      have HE8 := Lib.hid (hX5.out.step (X7.out.step hx8))
      have HB8 := Lib.hid (hB5.out.to (X7.out.step hx8))
      have H8 := Lib.hid hw8
      have hdn : dd < 4 := hd4
      clear hw8 hx8 hq hUs0 hfs hfv HO8 hx6 hx7 e0 e1 e2 c0 hP
      go_wp2_with (first
        | (at_builtin
           rw [← H8.out]
           refine wpList_append_rd _ rfl (.tmp 59) (.tmp 61) _ rfl (w.heap.size + 2) 31 i0 _ 1 8 Try.underlying78 hi0 hz0 hz1 hz2 rfl (by omega) (.slice Af q cf) q Us0 (by rfl) HO9.out (some ⟨w7.heap.size, 0, none⟩) 1 1 [.int .u64 z] (by rfl) HRd.out (by simp [Value.oneCell']) (by unfold maxLen; omega) (by omega) (by omega) ?_
           intro v' w12 how hgr hvb
           obtain ⟨Av', cv', rfl⟩ := own_slice how
           have HOW := Lib.hid how
           have HGR := Lib.hid hgr
           have HVB := Lib.hid hvb
           have hnb := R8.out.nb dd hdn
           rw [← HFV.out] at hnb
           have B12 := R8.out.box.grown hgr (fun e => hnb e)
           have u1 := (B12.cell dd).trans (arr4_get F hdn)
           have u2 := B12.free dd
           clear how hgr hvb hnb B12))
      have hown' := HOW.out
      obtain ⟨v', hv'⟩ : ∃ v', v' = Value.slice Av' (q + 1) cv' := ⟨_, rfl⟩
      have HN4 := Lib.hid (show R4 (w12.setCell ⟨w.heap.size + 1, dd, none⟩ (.slice Av' (q + 1) cv')) (w.heap.size + 2) (w.heap.size + 1) (upd F dd (.slice Av' (q + 1) cv')) (fun i : Nat => (ofL (ls.take (k + 1)) lv i).map Lf.r) by
        rw [HPM'.out]
        refine R8.out.push hdn ?_ ?_ ?_
        · rw [← HQ.out.1, ← HQ.out.2]; exact HOW.out
        · rw [← HFV.out]; exact HGR.out
        · rw [← HFV.out]; exact HVB.out)
      have HE12 := Lib.hid (show Ext w (w12.setCell ⟨w.heap.size + 1, dd, none⟩ (.slice Av' (q + 1) cv')) from Ext.set (own_back HE8.out (by omega) HGR.out (fun g hg => by have := (HO9.out.lt g hg).1; omega)) _ (by omega))
      have HB12 := Lib.hid (show Bx (w12.setCell ⟨w.heap.size + 1, dd, none⟩ (.slice Av' (q + 1) cv')) w.heap.size #[.pointer (some ⟨b, 0, none⟩)] from ((Only.refl (w.heap.size + 1) w12).set dd _).bx (HB8.out.grown HGR.out (fun e => by have := (HO9.out.lt _ e).1; omega)) (by omega))
      have hse : (w12.setCell ⟨w.heap.size + 1, dd, none⟩ (.slice Av' (q + 1) cv')).heap.size = w12.heap.size := by simp [World.setCell]
      have HS12 := Lib.hid (show w.heap.size + 2 ≤ (w12.setCell ⟨w.heap.size + 1, dd, none⟩ (.slice Av' (q + 1) cv')).heap.size by rw [hse]; have h1 := HGR.out.size; omega)
      clear hse
      exact ⟨⟨HE12, HB12, k + 1, by omega, rfl, _, HN4, HS12⟩, by simp [intOf]; omega⟩
    · obtain rfl : k = n := by omega
      have hlk : ls.take k = ls := List.take_of_length_le (by have := HN.out; omega)
      have HR := Lib.hid hR.out
      rw [hlk] at HR
      obtain ⟨A0, c0, e0⟩ := own_slice (HR.out.own 0 (by omega))
      obtain ⟨A1, c1, e1⟩ := own_slice (HR.out.own 1 (by omega))
      obtain ⟨A2, c2, e2⟩ := own_slice (HR.out.own 2 (by omega))
      obtain ⟨A3, c3, e3⟩ := own_slice (HR.out.own 3 (by omega))
      have k0 : w5.cell? ⟨w.heap.size + 1, 0, none⟩ = some (.slice A0 ((ofL ls lv (0 : Nat)).map Lf.r).length c0) := (HR.out.box.cell 0).trans (congrArg some e0)
      have k1 : w5.cell? ⟨w.heap.size + 1, 1, none⟩ = some (.slice A1 ((ofL ls lv (1 : Nat)).map Lf.r).length c1) := (HR.out.box.cell 1).trans (congrArg some e1)
      have k2 : w5.cell? ⟨w.heap.size + 1, 2, none⟩ = some (.slice A2 ((ofL ls lv (2 : Nat)).map Lf.r).length c2) := (HR.out.box.cell 2).trans (congrArg some e2)
      have k3 : w5.cell? ⟨w.heap.size + 1, 3, none⟩ = some (.slice A3 ((ofL ls lv (3 : Nat)).map Lf.r).length c3) := (HR.out.box.cell 3).trans (congrArg some e3)
      have r0 := HR.out.own 0 (by omega)
      have r1 := HR.out.own 1 (by omega)
      have r2 := HR.out.own 2 (by omega)
      have r3 := HR.out.own 3 (by omega)
      rw [e0] at r0
      rw [e1] at r1
      rw [e2] at r2
      rw [e3] at r3
      obtain ⟨l0, hl0⟩ : ∃ l, l = ((ofL ls lv (0 : Nat)).map Lf.r).length := ⟨_, rfl⟩
      obtain ⟨l1, hl1⟩ : ∃ l, l = ((ofL ls lv (1 : Nat)).map Lf.r).length := ⟨_, rfl⟩
      obtain ⟨l2, hl2⟩ : ∃ l, l = ((ofL ls lv (2 : Nat)).map Lf.r).length := ⟨_, rfl⟩
      obtain ⟨l3, hl3⟩ : ∃ l, l = ((ofL ls lv (3 : Nat)).map Lf.r).length := ⟨_, rfl⟩
      rw [← hl0] at r0 k0
      rw [← hl1] at r1 k1
      rw [← hl2] at r2 k2
      rw [← hl3] at r3 k3
      obtain ⟨w6, hw6⟩ : ∃ w6, w6 = w5.alloc (.cells #[.int .u64 0, .int .u64 0, .int .u64 0, .int .u64 0] 107) := ⟨_, rfl⟩
      obtain ⟨B6, hx6, hs6⟩ := box_made hw6
      have H6 := Lib.hid hw6
      have j0 := hx6.cellOf k0
      have j1 := hx6.cellOf k1
      have j2 := hx6.cellOf k2
      have j3 := hx6.cellOf k3
      have ROW := Lib.hid (show ∀ i : Nat, i < 4 → w6.ownsRow (w.heap.size + 2) 31 1 (if i = 0 then .slice A0 l0 c0 else if i = 1 then .slice A1 l1 c1 else if i = 2 then .slice A2 l2 c2 else .slice A3 l3 c3) (if i = 0 then l0 else if i = 1 then l1 else if i = 2 then l2 else l3) (Us ((ofL ls lv i).map Lf.r)) from fun i hi => by
        rcases (by omega : i = 0 ∨ i = 1 ∨ i = 2 ∨ i = 3) with rfl | rfl | rfl | rfl
        · exact own_ext r0 hx6
        · exact own_ext r1 hx6
        · exact own_ext r2 hx6
        · exact own_ext r3 hx6)
      have ROW5 := Lib.hid (show ∀ i : Nat, i < 4 → w5.ownsRow (w.heap.size + 2) 31 1 (if i = 0 then .slice A0 l0 c0 else if i = 1 then .slice A1 l1 c1 else if i = 2 then .slice A2 l2 c2 else .slice A3 l3 c3) (if i = 0 then l0 else if i = 1 then l1 else if i = 2 then l2 else l3) (Us ((ofL ls lv i).map Lf.r)) from fun i hi => by
        rcases (by omega : i = 0 ∨ i = 1 ∨ i = 2 ∨ i = 3) with rfl | rfl | rfl | rfl
        · exact r0
        · exact r1
        · exact r2
        · exact r3)
      have REC := Lib.hid (show Rec4 w b w.heap.size w5.heap.size ns fs lv ls f 0 w6 ns fs (fun _ => .nil) 0 from
        ⟨HMk.out.to (hx.out.step hx6), (Only.refl b w).ext (hx.out.step hx6), FarTo.ext (hx.out.step hx6) hbw.out, Gr.refl _ _ _, hb1.out.to hx6, B6, fun i _ => ⟨trivial, trivial, U.zero⟩, fun i hi => by omega, fun _ _ => rfl, by
          have hfew' : ¬ ls.length ≤ 1 := by have := HN.out; omega
          simp only [ctF, if_neg hfew', if_true]; omega⟩)
      have HFAR := Lib.hid (show w.heap.size + 2 ≤ w5.heap.size from hsz.out)
      clear k0 k1 k2 k3 r0 r1 r2 r3 e0 e1 e2 e3 hw6 B6 hx6 hs6 hl0 hl1 hl2 hl3 hR hx hb1 hsz hlk HR0
      have HBL := Lib.hid (show ∀ i : Nat, i < 4 → ∀ g, Value.ownBlock (if i = 0 then .slice A0 l0 c0 else if i = 1 then .slice A1 l1 c1 else if i = 2 then .slice A2 l2 c2 else .slice A3 l3 c3) = some g → w.heap.size + 2 ≤ g ∧ g < w5.heap.size from fun i hi g hg => ⟨((ROW.out i hi).lt g hg).1, ((ROW5.out i hi).lt g hg).2⟩)
      go_upto_region 16 with fail
      rw [← H6.out]
      go_wp2_with fail
      go_loopw [66, 12, 13] (fun j _ _ wr => ∃ k : Nat, k ≤ 4 ∧ j = .int .i64 k ∧ ∃ (ns' : List Nd) (fs' : List Int) (tt : Nat → HT) (cc : Nat), Hid (Rec4 w b w.heap.size w5.heap.size ns fs lv ls f k wr ns' fs' tt cc) ∧ Hid (∀ i : Nat, i < 4 → wr.ownsRow (w.heap.size + 2) 31 1 (if i = 0 then .slice A0 l0 c0 else if i = 1 then .slice A1 l1 c1 else if i = 2 then .slice A2 l2 c2 else .slice A3 l3 c3) (if i = 0 then l0 else if i = 1 then l1 else if i = 2 then l2 else l3) (Us ((ofL ls lv i).map Lf.r)))) (fun j _ _ _ => 4 - (intOf j).toNat)
      case atStart => exact ⟨0, by omega, rfl, ns, fs, _, 0, REC, ROW⟩
      case round =>
        obtain ⟨k', hk4, rfl, ns', fs', tt, cc, hrec, hrows⟩ := hrel
        rename World => w8
        have HN' := HN
        rcases (by omega : k' = 0 ∨ k' = 1 ∨ k' = 2 ∨ k' = 3 ∨ k' = 4) with rfl | rfl | rfl | rfl | rfl
        · obtain ⟨hcost, hroom⟩ := hrec.out.room HF.out
          have hc := hcost (by omega)
          have hrow : w8.ownsRow (w.heap.size + 2) 31 1 (.slice A0 l0 c0) l0 (Us ((ofL ls lv (0 : Nat)).map Lf.r)) := hrows.out 0 (by omega)
          have HCL := Lib.hid (show Calls Try.prog 47 #[.agg #[.pointer (some ⟨b, 0, none⟩)], .int .i64 ((lv : Int) + 1), .slice A0 l0 c0] w8 (TOut b ns' fs' (ctF f (lv + 1) (ofL ls lv (0 : Nat))) (TabG (lv + 1) (ofL ls lv (0 : Nat))) w8) from
            HI b ns' fs' (ofL ls lv (0 : Nat)) A0 l0 c0 w8 hrec.out.mkr (Rd.own hrow) (Nat.le_trans (ofL_le _ _ _) (by have := HN.out; omega)) ((HG.out.mono hrec.out.gr.keep).of _) hc)
          have e3 : w8.cell? ⟨w.heap.size, 0, none⟩ = some (.pointer (some ⟨b, 0, none⟩)) := hrec.out.m3.cell 0
          have hrec8 := hrec
          have hrows8 := hrows
          clear hcost hroom hc hrow hrec hrows
          have hix := run_index4_0 A0 A1 A2 A3 l0 l1 l2 l3 c0 c1 c2 c3 w8
          go_wp2_with (refine wpList_index_agg 106 (by rfl) _ _ (by rfl) _ _ _ (by rfl) (by rfl) hix ?_)
          refine HCL.out.mono ?_; rintro e w9 hno'; obtain ⟨z, rfl, hno⟩ := hno'.split; clear hno'
          obtain ⟨ns'', fs'', z', hz', hm9, ho9, hg9, hu9, hf9, t, ht9, hr9, hp9⟩ := hno.out
          have hF9 := Lib.hid hf9
          have hM9 := Lib.hid hm9
          have hO9 := Lib.hid ho9
          have hG9 := Lib.hid hg9
          have hT9 := Lib.hid ht9
          have hP9 := Lib.hid hp9
          have hR9 := Lib.hid (show t.ref = z by rw [hr9]; injection hz' with h1; injection h1 with _ h2; exact h2.symm)
          have B9 := ho9.bx hrec8.out.box (by have := HFAR.out; have := hbw.out; omega)
          have g1 : w9.cell? ⟨w5.heap.size, 0, none⟩ = some (.int .u64 (tt 0).ref) := B9.cell 0
          have g2 := B9.free 0
          clear hz' hm9 ho9 hg9 hu9 hf9 ht9 hr9 hp9 B9 hno
          go_wp2_with fail
          have HFIN := Lib.hid (hrec8.out.push (by omega) (Nat.le_refl _) (by have := HFAR.out; omega) (by have := HFAR.out; omega) hbw.out hM9.out hO9.out hF9.out hG9.out hT9.out hP9.out)
          rw [hR9.out] at HFIN
          refine ⟨⟨0 + 1, by omega, rfl, ns'', fs'', _, _, HFIN, Lib.hid ?_⟩, by simp [intOf]⟩
          intro i hi
          exact ((hrows8.out i hi).kept hO9.out (.inr (fun e => by cases hq : Value.ownBlock _ with | none => rw [hq] at e; cases e | some g => have := (HBL.out i hi g hq).1; rw [hq] at e; injection e with e; have := hbw.out; omega))).kept ((Only.refl w5.heap.size w9).set 0 _) (.inr (fun e => by cases hq : Value.ownBlock _ with | none => rw [hq] at e; cases e | some g => have := (HBL.out i hi g hq).2; rw [hq] at e; injection e with e; omega))
        · obtain ⟨hcost, hroom⟩ := hrec.out.room HF.out
          have hc := hcost (by omega)
          have hrow : w8.ownsRow (w.heap.size + 2) 31 1 (.slice A1 l1 c1) l1 (Us ((ofL ls lv (1 : Nat)).map Lf.r)) := hrows.out 1 (by omega)
          have HCL := Lib.hid (show Calls Try.prog 47 #[.agg #[.pointer (some ⟨b, 0, none⟩)], .int .i64 ((lv : Int) + 1), .slice A1 l1 c1] w8 (TOut b ns' fs' (ctF f (lv + 1) (ofL ls lv (1 : Nat))) (TabG (lv + 1) (ofL ls lv (1 : Nat))) w8) from
            HI b ns' fs' (ofL ls lv (1 : Nat)) A1 l1 c1 w8 hrec.out.mkr (Rd.own hrow) (Nat.le_trans (ofL_le _ _ _) (by have := HN.out; omega)) ((HG.out.mono hrec.out.gr.keep).of _) hc)
          have e3 : w8.cell? ⟨w.heap.size, 0, none⟩ = some (.pointer (some ⟨b, 0, none⟩)) := hrec.out.m3.cell 0
          have hrec8 := hrec
          have hrows8 := hrows
          clear hcost hroom hc hrow hrec hrows
          have hix := run_index4_1 A0 A1 A2 A3 l0 l1 l2 l3 c0 c1 c2 c3 w8
          go_wp2_with (refine wpList_index_agg 106 (by rfl) _ _ (by rfl) _ _ _ (by rfl) (by rfl) hix ?_)
          refine HCL.out.mono ?_; rintro e w9 hno'; obtain ⟨z, rfl, hno⟩ := hno'.split; clear hno'
          obtain ⟨ns'', fs'', z', hz', hm9, ho9, hg9, hu9, hf9, t, ht9, hr9, hp9⟩ := hno.out
          have hF9 := Lib.hid hf9
          have hM9 := Lib.hid hm9
          have hO9 := Lib.hid ho9
          have hG9 := Lib.hid hg9
          have hT9 := Lib.hid ht9
          have hP9 := Lib.hid hp9
          have hR9 := Lib.hid (show t.ref = z by rw [hr9]; injection hz' with h1; injection h1 with _ h2; exact h2.symm)
          have B9 := ho9.bx hrec8.out.box (by have := HFAR.out; have := hbw.out; omega)
          have g1 : w9.cell? ⟨w5.heap.size, 1, none⟩ = some (.int .u64 (tt 1).ref) := B9.cell 1
          have g2 := B9.free 1
          clear hz' hm9 ho9 hg9 hu9 hf9 ht9 hr9 hp9 B9 hno
          go_wp2_with fail
          have HFIN := Lib.hid (hrec8.out.push (by omega) (Nat.le_refl _) (by have := HFAR.out; omega) (by have := HFAR.out; omega) hbw.out hM9.out hO9.out hF9.out hG9.out hT9.out hP9.out)
          rw [hR9.out] at HFIN
          refine ⟨⟨1 + 1, by omega, rfl, ns'', fs'', _, _, HFIN, Lib.hid ?_⟩, by simp [intOf]⟩
          intro i hi
          exact ((hrows8.out i hi).kept hO9.out (.inr (fun e => by cases hq : Value.ownBlock _ with | none => rw [hq] at e; cases e | some g => have := (HBL.out i hi g hq).1; rw [hq] at e; injection e with e; have := hbw.out; omega))).kept ((Only.refl w5.heap.size w9).set 1 _) (.inr (fun e => by cases hq : Value.ownBlock _ with | none => rw [hq] at e; cases e | some g => have := (HBL.out i hi g hq).2; rw [hq] at e; injection e with e; omega))
        · obtain ⟨hcost, hroom⟩ := hrec.out.room HF.out
          have hc := hcost (by omega)
          have hrow : w8.ownsRow (w.heap.size + 2) 31 1 (.slice A2 l2 c2) l2 (Us ((ofL ls lv (2 : Nat)).map Lf.r)) := hrows.out 2 (by omega)
          have HCL := Lib.hid (show Calls Try.prog 47 #[.agg #[.pointer (some ⟨b, 0, none⟩)], .int .i64 ((lv : Int) + 1), .slice A2 l2 c2] w8 (TOut b ns' fs' (ctF f (lv + 1) (ofL ls lv (2 : Nat))) (TabG (lv + 1) (ofL ls lv (2 : Nat))) w8) from
            HI b ns' fs' (ofL ls lv (2 : Nat)) A2 l2 c2 w8 hrec.out.mkr (Rd.own hrow) (Nat.le_trans (ofL_le _ _ _) (by have := HN.out; omega)) ((HG.out.mono hrec.out.gr.keep).of _) hc)
          have e3 : w8.cell? ⟨w.heap.size, 0, none⟩ = some (.pointer (some ⟨b, 0, none⟩)) := hrec.out.m3.cell 0
          have hrec8 := hrec
          have hrows8 := hrows
          clear hcost hroom hc hrow hrec hrows
          have hix := run_index4_2 A0 A1 A2 A3 l0 l1 l2 l3 c0 c1 c2 c3 w8
          go_wp2_with (refine wpList_index_agg 106 (by rfl) _ _ (by rfl) _ _ _ (by rfl) (by rfl) hix ?_)
          refine HCL.out.mono ?_; rintro e w9 hno'; obtain ⟨z, rfl, hno⟩ := hno'.split; clear hno'
          obtain ⟨ns'', fs'', z', hz', hm9, ho9, hg9, hu9, hf9, t, ht9, hr9, hp9⟩ := hno.out
          have hF9 := Lib.hid hf9
          have hM9 := Lib.hid hm9
          have hO9 := Lib.hid ho9
          have hG9 := Lib.hid hg9
          have hT9 := Lib.hid ht9
          have hP9 := Lib.hid hp9
          have hR9 := Lib.hid (show t.ref = z by rw [hr9]; injection hz' with h1; injection h1 with _ h2; exact h2.symm)
          have B9 := ho9.bx hrec8.out.box (by have := HFAR.out; have := hbw.out; omega)
          have g1 : w9.cell? ⟨w5.heap.size, 2, none⟩ = some (.int .u64 (tt 2).ref) := B9.cell 2
          have g2 := B9.free 2
          clear hz' hm9 ho9 hg9 hu9 hf9 ht9 hr9 hp9 B9 hno
          go_wp2_with fail
          have HFIN := Lib.hid (hrec8.out.push (by omega) (Nat.le_refl _) (by have := HFAR.out; omega) (by have := HFAR.out; omega) hbw.out hM9.out hO9.out hF9.out hG9.out hT9.out hP9.out)
          rw [hR9.out] at HFIN
          refine ⟨⟨2 + 1, by omega, rfl, ns'', fs'', _, _, HFIN, Lib.hid ?_⟩, by simp [intOf]⟩
          intro i hi
          exact ((hrows8.out i hi).kept hO9.out (.inr (fun e => by cases hq : Value.ownBlock _ with | none => rw [hq] at e; cases e | some g => have := (HBL.out i hi g hq).1; rw [hq] at e; injection e with e; have := hbw.out; omega))).kept ((Only.refl w5.heap.size w9).set 2 _) (.inr (fun e => by cases hq : Value.ownBlock _ with | none => rw [hq] at e; cases e | some g => have := (HBL.out i hi g hq).2; rw [hq] at e; injection e with e; omega))
        · obtain ⟨hcost, hroom⟩ := hrec.out.room HF.out
          have hc := hcost (by omega)
          have hrow : w8.ownsRow (w.heap.size + 2) 31 1 (.slice A3 l3 c3) l3 (Us ((ofL ls lv (3 : Nat)).map Lf.r)) := hrows.out 3 (by omega)
          have HCL := Lib.hid (show Calls Try.prog 47 #[.agg #[.pointer (some ⟨b, 0, none⟩)], .int .i64 ((lv : Int) + 1), .slice A3 l3 c3] w8 (TOut b ns' fs' (ctF f (lv + 1) (ofL ls lv (3 : Nat))) (TabG (lv + 1) (ofL ls lv (3 : Nat))) w8) from
            HI b ns' fs' (ofL ls lv (3 : Nat)) A3 l3 c3 w8 hrec.out.mkr (Rd.own hrow) (Nat.le_trans (ofL_le _ _ _) (by have := HN.out; omega)) ((HG.out.mono hrec.out.gr.keep).of _) hc)
          have e3 : w8.cell? ⟨w.heap.size, 0, none⟩ = some (.pointer (some ⟨b, 0, none⟩)) := hrec.out.m3.cell 0
          have hrec8 := hrec
          have hrows8 := hrows
          clear hcost hroom hc hrow hrec hrows
          have hix := run_index4_3 A0 A1 A2 A3 l0 l1 l2 l3 c0 c1 c2 c3 w8
          go_wp2_with (refine wpList_index_agg 106 (by rfl) _ _ (by rfl) _ _ _ (by rfl) (by rfl) hix ?_)
          refine HCL.out.mono ?_; rintro e w9 hno'; obtain ⟨z, rfl, hno⟩ := hno'.split; clear hno'
          obtain ⟨ns'', fs'', z', hz', hm9, ho9, hg9, hu9, hf9, t, ht9, hr9, hp9⟩ := hno.out
          have hF9 := Lib.hid hf9
          have hM9 := Lib.hid hm9
          have hO9 := Lib.hid ho9
          have hG9 := Lib.hid hg9
          have hT9 := Lib.hid ht9
          have hP9 := Lib.hid hp9
          have hR9 := Lib.hid (show t.ref = z by rw [hr9]; injection hz' with h1; injection h1 with _ h2; exact h2.symm)
          have B9 := ho9.bx hrec8.out.box (by have := HFAR.out; have := hbw.out; omega)
          have g1 : w9.cell? ⟨w5.heap.size, 3, none⟩ = some (.int .u64 (tt 3).ref) := B9.cell 3
          have g2 := B9.free 3
          clear hz' hm9 ho9 hg9 hu9 hf9 ht9 hr9 hp9 B9 hno
          go_wp2_with fail
          have HFIN := Lib.hid (hrec8.out.push (by omega) (Nat.le_refl _) (by have := HFAR.out; omega) (by have := HFAR.out; omega) hbw.out hM9.out hO9.out hF9.out hG9.out hT9.out hP9.out)
          rw [hR9.out] at HFIN
          refine ⟨⟨3 + 1, by omega, rfl, ns'', fs'', _, _, HFIN, Lib.hid ?_⟩, by simp [intOf]⟩
          intro i hi
          exact ((hrows8.out i hi).kept hO9.out (.inr (fun e => by cases hq : Value.ownBlock _ with | none => rw [hq] at e; cases e | some g => have := (HBL.out i hi g hq).1; rw [hq] at e; injection e with e; have := hbw.out; omega))).kept ((Only.refl w5.heap.size w9).set 3 _) (.inr (fun e => by cases hq : Value.ownBlock _ with | none => rw [hq] at e; cases e | some g => have := (HBL.out i hi g hq).2; rw [hq] at e; injection e with e; omega))
        · have hroom := (hrec.out.room HF.out).2
          have p0 := hrec.out.is 0 (by omega)
          have p1 := hrec.out.is 1 (by omega)
          have p2 := hrec.out.is 2 (by omega)
          have p3 := hrec.out.is 3 (by omega)
          have hsz : (tt 0).size + ((tt 1).size + ((tt 2).size + (tt 3).size)) = ls.length := by
            have h1 := p0.length_eq
            have h2 := p1.length_eq
            have h3 := p2.length_eq
            have h4 := p3.length_eq
            have h5 := ofL_len lv ls
            simp only [HT.size, Int.ofNat_zero, Int.ofNat_one, Int.natCast_zero, Int.natCast_one] at *
            have e2 : ((2 : Nat) : Int) = 2 := rfl
            have e3 : ((3 : Nat) : Int) = 3 := rfl
            rw [e2] at h3
            rw [e3] at h4
            omega
          have hdg : ∀ i : Nat, i < 4 → Dg lv i (tt i) := fun i hi y hy => (mem_ofL.1 ((hrec.out.is i hi).mem_iff.1 hy)).2
          have HTT := Lib.hid (fun W (hW : Ext w8 W) => htTrie4_is b ns' fs' lv (tt 0) (tt 1) (tt 2) (tt 3) (some ⟨w5.heap.size, 0, none⟩) 4 W (hrec.out.mkr.to hW) (by
              have hbx := hrec.out.box.to hW
              refine ⟨rfl, fun j u hu => ⟨_, rfl, ?_⟩⟩
              have hj4 : j < 4 := (List.getElem?_eq_some_iff.1 hu).1
              have e : (⟨w5.heap.size, 0, none⟩ : Addr).add j = ⟨w5.heap.size, j, none⟩ := by unfold Addr.add; split <;> simp_all
              rw [e, hbx.cell, arr4_get _ hj4, ← hu]
              rcases (by omega : j = 0 ∨ j = 1 ∨ j = 2 ∨ j = 3) with rfl | rfl | rfl | rfl <;> rfl) (hrec.out.tr 0 (by omega)) (hrec.out.tr 1 (by omega)) (hrec.out.tr 2 (by omega)) (hrec.out.tr 3 (by omega)) hlv10 ⟨hdg 0 (by omega), hdg 1 (by omega), hdg 2 (by omega), hdg 3 (by omega)⟩ (by have := HN.out; omega) (by have := HN.out; omega) hroom)
          have hperm := Lib.hid (show ((tt 0).lvs ++ ((tt 1).lvs ++ ((tt 2).lvs ++ (tt 3).lvs))).Perm ls from (p0.append (p1.append (p2.append p3))).trans (ofL_parts lv ls))
          have s0 := fun q : Later w8 => (hrec.out.m3.to q.ext).cell 0
          simp only [List.getElem?_toArray, List.getElem?_cons_zero] at s0
          have hrec8 := hrec
          have HS0 := Lib.hid s0
          clear hroom p0 p1 p2 p3 hsz hdg hrec hrows s0
          go_upto_region 21 with fail
          have s0 := HS0.out
          refine wp_region_pivot (C := fun w' => ∃ q : Later w8, w' = q.w) 2 _ rfl (by kernel_rfl) (by kernel_rfl) ⟨⟨w8.drew, (Ext.refl _).drew⟩, rfl⟩ ?_
          simp only [List.take_succ_cons, List.take_zero]
          repeat (go_big_quiet_step (fail))
          refine wpQuiet_nil ?_
          rintro _ ⟨q1, rfl⟩ K hK
          clear s0
          go_simp
          refine (HTT.out q1.w q1.ext).mono ?_
          rintro e w9 hno'
          obtain ⟨z, rfl, hno⟩ := hno'.split
          clear hno'
          refine hK _ _ ⟨fun w' => ∃ q : Later w9, w' = q.w, ⟨⟨w9, Ext.refl _⟩, rfl⟩, ?_⟩
          simp only [List.drop_succ_cons, List.drop_zero]
          have HFIN := Lib.hid (show ∀ W, Ext w9 W → TOut b ns fs (ctF (f + 1) lv ls) (TabG lv ls) w (.returned (.int .u64 z)) W from fun W hW => by
            obtain ⟨ns9, fs9, z', hz', hm9, ho9, hg9, hu9, hf9, t, ht9, hr9, hl9⟩ := hno.out
            injection hz' with h1
            injection h1 with _ h2
            subst h2
            have hcost := hrec8.out.cost
            simp at hcost
            exact ⟨ns9, fs9, z, rfl, hm9.to hW, ((hrec8.out.only.ext q1.ext).trans ho9).ext hW, (hrec8.out.gr.trans hg9).more (by omega), hu9, (((hrec8.out.far.trans (FarTo.ext q1.ext hrec8.out.mkr.lt) hrec8.out.only.size).trans hf9 (Nat.le_trans hrec8.out.only.size q1.ext.size)).trans (FarTo.ext hW hm9.lt) (Nat.le_trans (Nat.le_trans hrec8.out.only.size q1.ext.size) ho9.size)), t, ht9, hr9, by rw [hl9]; exact hperm.out⟩)
          clear hno HTT
          repeat (go_big_quiet_step (fail))
          refine wpQuiet_nil ?_
          rintro _ ⟨q2, rfl⟩
          go_wp2_with fail
          go_ret
          exact HFIN.out _ q2.ext
theorem htTable_is : ∀ (f lv : Nat), lv + f = 10 → TabF f lv := by
  intro f
  induction f with
  | zero =>
    intro lv hlv b ns fs ls S n c w h hS h9 hg hf
    obtain rfl : lv = 10 := by omega
    exact htTable_few 0 10 (by omega) b ns fs ls S n c w h hS hg.last hg
  | succ f ih =>
    intro lv hlv
    exact htTable_step f lv hlv (ih (lv + 1) (by omega))

end Go.Proofs.Ytfoifcbaadnigaa
