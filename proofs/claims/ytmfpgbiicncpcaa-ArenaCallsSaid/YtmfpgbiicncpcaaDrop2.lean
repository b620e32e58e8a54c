/-
  Contracts: Drop, walked.
-/
import Derived.Test.YtmfpgbiicncpcaaDrop
set_option linter.unusedVariables false
set_option linter.unusedSimpArgs false
namespace Go.Proofs.Ytmfpgbiicncpcaa
open Go.RowKit

theorem OwnN.grown {W W' : World} {g : Nat} {ns : List Nd} {r : Option Nat} (h : OwnN W g ns) (hg : W.grownBy W' r) (hn : r ≠ some g) : OwnN W' g ns := by
  have e := hg.block g h.lt (fun e => hn e.symm)
  refine ⟨Nat.lt_of_lt_of_le h.lt hg.size, fun i x hx j hj => (World.cell?_of_block (a := ⟨g, i * 16 + j, none⟩) e).trans (h.cell i x hx j hj), fun j => by
    have := h.free j
    unfold World.frozen? at this ⊢
    rw [e]
    exact this⟩

def DropNo (w : World) (e : Ending) (w' : World) : Prop := e = .returned (.tuple #[.agg #[.slice none 0 0, .slice none 0 0], .int .i64 1]) ∧ Ext w w'
def DropR (w : World) (n m q : Nat) (ns : List Nd) (fs ps : List Int) (e : Ending) (w' : World) : Prop :=
  (drops ns ps = none ∧ DropNo w e w') ∨ ∃ ns', drops ns ps = some ns' ∧ DropA w n m q ns' fs ps e w'

set_option maxHeartbeats 1600000 in
theorem drop_arg (A B C : Option Addr) (n m c d q r : Nat) (ns : List Nd) (fs : List Int) (w : World) (h : Ar w A n B m ns fs) (hn : n ≤ 1000) (hm : m ≤ 1000) (hno : ¬ ArMay ns fs) :
    Calls Try.prog 23 #[.agg #[.slice A n c, .slice B m d], .slice C q r] w (DropNo w) := by
  obtain ⟨w1, hw1⟩ : ∃ w1, w1 = w.alloc (.cells #[.slice A n c, .slice B m d] 25) := ⟨_, rfl⟩
  obtain ⟨w2, hw2⟩ : ∃ w2, w2 = w1.alloc (.cells #[.slice none 0 0, .slice none 0 0] 25) := ⟨_, rfl⟩
  obtain ⟨B1, hx1, hs1⟩ := box_made hw1
  obtain ⟨B2, hx2, hs2⟩ := box_made hw2
  rw [hs1] at B2
  have X2 := Lib.hid (hx1.step hx2)
  have HR := Lib.hid (arRight_is A B n m c d ns fs w2 (h.to X2.out) hn hm false (by simp [hno]))
  have k0 : w2.cell? ⟨w.heap.size, 0, none⟩ = some (.slice A n c) := (B1.to hx2).cell 0
  have k1 : w2.cell? ⟨w.heap.size, 1, none⟩ = some (.slice B m d) := (B1.to hx2).cell 1
  have HB2 := Lib.hid B2
  have H1 := Lib.hid hw1
  have H2 := Lib.hid hw2
  clear hw1 hw2 B1 B2 hx1 hx2 hs1 hs2 hno h
  go_enter Try.func23, Try.ntmps23
  go_wp2_with fail
  rw [← H1.out, ← H2.out]
  go_wp2_with fail
  refine HR.out.mono ?_; rintro e w4 ⟨rfl, hx4⟩
  have f0 : w4.cell? ⟨w.heap.size + 1, 0, none⟩ = some (.slice none 0 0) := (HB2.out.to hx4).cell 0
  have f1 : w4.cell? ⟨w.heap.size + 1, 1, none⟩ = some (.slice none 0 0) := (HB2.out.to hx4).cell 1
  have f2 : w4.frozen? ⟨w.heap.size + 1, 0, none⟩ = false := (HB2.out.to hx4).free 0
  have f3 : w4.frozen? ⟨w.heap.size + 1, 1, none⟩ = false := (HB2.out.to hx4).free 1
  have HE := Lib.hid (And.intro ((Only.two w4 (w.heap.size + 1) (.slice none 0 0) (.slice none 0 0)).new (X2.out.step hx4) (by omega)) ((HB2.out.to hx4).two (.slice none 0 0) (.slice none 0 0)))
  clear hx4
  go_wp2_with fail
  refine bodyPost_ret (results_ar2 rfl _ _ (w.heap.size + 1) #[.slice none 0 0, .slice none 0 0] (by rfl) HE.out.2 rfl) rfl ⟨rfl, HE.out.1⟩

set_option maxHeartbeats 6400000 in
theorem drop_is (A B C : Option Addr) (n m c d q r : Nat) (ns : List Nd) (fs ps : List Int) (w : World) (h : Ar w A n B m ns fs) (hn : n ≤ 1000) (hm : m ≤ 1000) (hq : q ≤ 1000) (hp : Rd w 1 C q (Ks .i64 ps)) (hmay : ArMay ns fs) :
    Calls Try.prog 23 #[.agg #[.slice A n c, .slice B m d], .slice C q r] w (DropR w n m q ns fs ps) := by
  obtain ⟨w1, hw1⟩ : ∃ w1, w1 = w.alloc (.cells #[.slice A n c, .slice B m d] 25) := ⟨_, rfl⟩
  obtain ⟨w2, hw2⟩ : ∃ w2, w2 = w1.alloc (.cells #[.slice none 0 0, .slice none 0 0] 25) := ⟨_, rfl⟩
  obtain ⟨B1, hx1, hs1⟩ := box_made hw1
  obtain ⟨B2, hx2, hs2⟩ := box_made hw2
  rw [hs1] at B2
  have h0 : 0 < n := by have := hmay.pos; have := h.len; omega
  have X2 := Lib.hid (hx1.step hx2)
  have HR := Lib.hid (arRight_is A B n m c d ns fs w2 (h.to X2.out) hn hm true (by simp [hmay]))
  have k0 : w2.cell? ⟨w.heap.size, 0, none⟩ = some (.slice A n c) := (B1.to hx2).cell 0
  have k1 : w2.cell? ⟨w.heap.size, 1, none⟩ = some (.slice B m d) := (B1.to hx2).cell 1
  have HB1 := Lib.hid (B1.to hx2)
  have HB2 := Lib.hid B2
  have H1 := Lib.hid hw1
  have H2 := Lib.hid hw2
  have HA := Lib.hid (h.to X2.out)
  have HL := Lib.hid h.len
  have HP := Lib.hid hp
  have HPL := Lib.hid (show ps.length = q by have := hp.1; simpa [Ks] using this)
  have HGM := Lib.hid (fun x hx => (hmay.fits x hx).1)
  have HOK := Lib.hid h.ok
  obtain ⟨i0, hi0, hz0, hz1, hz2⟩ := info_parts int_info
  clear hw1 hw2 B1 B2 hx1 hx2 hs1 hs2 hmay h hp
  go_enter Try.func23, Try.ntmps23
  go_wp2_with fail
  rw [← H1.out, ← H2.out]
  go_wp2_with fail
  refine HR.out.mono ?_; rintro e w4 ⟨rfl, hx4⟩
  have q0 : w4.cell? ⟨w.heap.size, 0, none⟩ = some (.slice A n c) := (HB1.out.to hx4).cell 0
  have q1 : w4.cell? ⟨w.heap.size, 1, none⟩ = some (.slice B m d) := (HB1.out.to hx4).cell 1
  have HX4 := Lib.hid hx4
  clear hx4 k0 k1
  go_wp2_with fail
  refine (copied_is A B n m c d ns fs _ (HA.out.to HX4.out) hn h0 hm).mono ?_
  rintro e w6 ⟨g, c', B', d', rfl, hN, hx6⟩
  have hge : w.heap.size + 2 ≤ g := by
    have h1 := hN.ge
    have h2 := HX4.out.size
    have h3 := HB2.out.lt
    omega
  have hvb : ∀ k, (Value.slice B' m d').ownBlock = some k → w.heap.size + 2 ≤ k := fun k hk => by
    have h1 := (hN.free.lt k hk).1
    have h2 := HX4.out.size
    have h3 := HB2.out.lt
    omega
  have hap := hN.apart
  have X6 := HX4.out.step hx6
  have q0 : w6.cell? ⟨w.heap.size, 0, none⟩ = some (.slice A n c) := (HB1.out.to X6).cell 0
  have q1 : w6.cell? ⟨w.heap.size, 1, none⟩ = some (.slice B m d) := (HB1.out.to X6).cell 1
  have q2 : w6.frozen? ⟨w.heap.size, 0, none⟩ = false := (HB1.out.to X6).free 0
  have q3 : w6.frozen? ⟨w.heap.size, 1, none⟩ = false := (HB1.out.to X6).free 1
  obtain ⟨w7, hw7⟩ : ∃ w7, w7 = (w6.setCell ⟨w.heap.size, 0, none⟩ (.slice (some ⟨g, 0, none⟩) n c')).setCell ⟨w.heap.size, 1, none⟩ (.slice B' m d') := ⟨_, rfl⟩
  have O7 : Only w.heap.size w6 w7 := by rw [hw7]; exact Only.two _ _ _ _
  have B7 : Bx w7 w.heap.size #[.slice (some ⟨g, 0, none⟩) n c', .slice B' m d'] := by rw [hw7]; exact (HB1.out.to X6).two _ _
  have N7 : OwnN w7 g ns := hN.nodes.only O7 (by omega)
  have F7 := own_base (own_only hN.free O7 (fun e => by have := hvb _ e; omega)) (show w.heap.size + 2 ≤ w4.heap.size by have h2 := HX4.out.size; have h3 := HB2.out.lt; omega)
  have B7r : Bx w7 (w.heap.size + 1) #[.slice none 0 0, .slice none 0 0] := O7.bx (HB2.out.to X6) (by omega)
  have E7 : Ext w w7 := O7.new (X2.out.step X6) (Nat.le_refl _)
  have H7 := Lib.hid hw7
  have hN7 := Lib.hid (And.intro N7 (And.intro F7 (And.intro B7 (And.intro B7r E7))))
  have HVB := Lib.hid (And.intro hvb hap)
  clear hN hx6 X6 hw7 O7 B7 N7 F7 B7r E7 hvb hap
  go_wp2_with fail
  rw [← H7.out]
  clear q0 q1 q2 q3
  go_loopw [7, 16] (fun _ j wr => Only g w7 wr ∧ ∃ k : Nat, k ≤ q ∧ j = .int .i64 k ∧ ∃ nsk, Hid (drops ns (ps.take k) = some nsk) ∧ Hid (OwnN wr g nsk)) (fun _ j _ => q - (intOf j).toNat)
  case atStart => exact ⟨Only.refl _ _, 0, Nat.zero_le _, rfl, ns, Lib.hid (by simp [drops]), Lib.hid hN7.out.1⟩
  case round =>
    obtain ⟨hO, k, hk, rfl, nsk, hD, hNk⟩ := hrel
    rename World => w8
    obtain ⟨N7, F7, B7, B7r, E7⟩ := hN7.out
    have B8 := hO.bx B7 (by omega)
    have B8r := hO.bx B7r (by omega)
    have E8 := hO.new E7 (by omega)
    have s0 : w8.cell? ⟨w.heap.size, 0, none⟩ = some (.slice (some ⟨g, 0, none⟩) n c') := B8.cell 0
    have s1 : w8.cell? ⟨w.heap.size, 1, none⟩ = some (.slice B' m d') := B8.cell 1
    have hlk : nsk.length = n := by rw [drops_length hD.out]; exact HL.out
    have HB8 := Lib.hid B8
    have HB8r := Lib.hid B8r
    have HE8 := Lib.hid E8
    have HO8 := Lib.hid hO
    have HLK := Lib.hid hlk
    clear N7 F7 B7 B7r E7 B8 B8r hlk hO
    by_cases hlt : k < q
    · obtain ⟨y, hy⟩ : ∃ y, ps[k]? = some y := ⟨_, List.getElem?_eq_getElem (by have := HPL.out; omega)⟩
      obtain ⟨ad, rfl, hcell⟩ := (HP.out.to E8).2 k (.int .i64 y) (by simp [Ks, hy])
      have HY := Lib.hid hy
      clear E8 hy
      have HTK := Lib.hid (show drops ns (ps.take (k + 1)) = drop1 nsk y by rw [List.take_add_one, HY.out]; show drops ns (ps.take k ++ [y]) = _; rw [drops_snoc, hD.out]; rfl)
      cases hd : drop1 nsk y with
      | none =>
        have HT := Lib.hid (taken_no (some ⟨g, 0, none⟩) n c' (.slice B' m d') nsk y w8 (hNk.out.rd HLK.out) (drop1_none hd))
        have HNone := Lib.hid (drops_take_none (k + 1) (HTK.out.trans hd))
        clear hd
        go_wp2_with fail
        refine HT.out.mono ?_; rintro e w9 ⟨rfl, hx9⟩
        have f0 : w9.cell? ⟨w.heap.size + 1, 0, none⟩ = some (.slice none 0 0) := (HB8r.out.to hx9).cell 0
        have f1 : w9.cell? ⟨w.heap.size + 1, 1, none⟩ = some (.slice none 0 0) := (HB8r.out.to hx9).cell 1
        have f2 : w9.frozen? ⟨w.heap.size + 1, 0, none⟩ = false := (HB8r.out.to hx9).free 0
        have f3 : w9.frozen? ⟨w.heap.size + 1, 1, none⟩ = false := (HB8r.out.to hx9).free 1
        have HE := Lib.hid (And.intro ((Only.two w9 (w.heap.size + 1) (.slice none 0 0) (.slice none 0 0)).new (HE8.out.step hx9) (by omega)) ((HB8r.out.to hx9).two (.slice none 0 0) (.slice none 0 0)))
        clear hx9
        go_wp2_with fail
        refine bodyPost_ret (results_ar2 rfl _ _ (w.heap.size + 1) #[.slice none 0 0, .slice none 0 0] (by rfl) HE.out.2 rfl) rfl (.inl ⟨HNone.out, rfl, HE.out.1⟩)
      | some ns' =>
        obtain ⟨p, x, rfl, hx, hxk, rfl⟩ := drop1_some hd
        have HT := Lib.hid (taken_yes (some ⟨g, 0, none⟩) n c' (.slice B' m d') nsk p x w8 (hNk.out.rd HLK.out) hx hxk)
        have HD' := Lib.hid (HTK.out.trans hd)
        have hpn : p < n := by have := (List.getElem?_eq_some_iff.1 hx).1; have := HLK.out; omega
        have HGx := Lib.hid (drops_gens hD.out HGM.out x (List.mem_of_getElem? hx))
        have HXX := Lib.hid hx
        clear hd hx hxk
        go_wp2_with fail
        refine HT.out.mono ?_; rintro e w9 ⟨rfl, hx9⟩
        have HX9 := Lib.hid hx9
        clear hx9 s0 s1 hcell
        go_wp2_with fail
        have N9 := hNk.out.to HX9.out
        have B9 := HB8.out.to HX9.out
        have u0 : w9.cell? ⟨w.heap.size, 0, none⟩ = some (.slice (some ⟨g, 0, none⟩) n c') := B9.cell 0
        obtain ⟨y0, y1, y2, y3, y4, y5, y6, y7, y8, y9, y10, y11, y12, y13, y14, y15⟩ := N9.sixteen HXX.out
        have hfr := N9.free
        have hpl : p < nsk.length := by have := HLK.out; omega
        have HN10 := Lib.hid ((N9.put16 hpl (bare (foll x.g))).to ((Ext.refl _).drew))
        have HO10 := Lib.hid (((HO8.out.ext HX9.out).trans (only16 w9 g p (bare (foll x.g)))).drew)
        clear N9 B9 hpl
        go_region_with (first
          | (go_at_call 36
             refine (following_is x.g _ HGx.out).mono ?_
             rintro e w10 ⟨rfl, rfl⟩))
        all_goals go_wp2_with fail
        all_goals go_roundw
        all_goals first
          | exact ⟨HO10.out, k + 1, by omega, by go_num, _, HD', HN10⟩
          | (simp [intOf]; omega)
    · have hT : ps.take k = ps := List.take_of_length_le (by have := HPL.out; omega)
      rw [hT] at hD
      obtain ⟨N7, F7, B7, B7r, E7⟩ := hN7.out
      have F8 := own_only F7 HO8.out HVB.out.2
      have hp8 := HP.out.to E8
      have hb8 : w.heap.size + 2 ≤ w8.heap.size := by have := HB8r.out.lt; omega
      have HF8 := Lib.hid F8
      have HP8 := Lib.hid hp8
      clear N7 F7 B7 B7r E7 hT
      go_wp2_with
        (at_builtin
         refine wpList_append_rd _ rfl (.tmp 39) (.tmp 40) _ rfl (w.heap.size + 2) 3 i0 _ 1 8 Try.underlying23 hi0 hz0 hz1 hz2 rfl (by omega) (.slice B' m d') m (Ks .i64 fs) rfl F8 C q r (Ks .i64 ps) rfl hp8 (Ks_one _ ps) (by simp only [maxLen]; omega) (by omega) hb8 ?_
         intro v1 w9 hown hgr hat
         obtain ⟨B2, d2, rfl⟩ := own_slice hown
         have hr1 : (Value.slice B' m d').ownBlock ≠ some w.heap.size := fun e => by have := HVB.out.1 _ e; omega
         have hr2 : (Value.slice B' m d').ownBlock ≠ some (w.heap.size + 1) := fun e => by have := HVB.out.1 _ e; omega
         have B9 := HB8.out.grown hgr hr1
         have B9r := HB8r.out.grown hgr hr2
         have u0 : w9.cell? ⟨w.heap.size, 0, none⟩ = some (.slice (some ⟨g, 0, none⟩) n c') := B9.cell 0
         have u1 : w9.cell? ⟨w.heap.size, 1, none⟩ = some (.slice B' m d') := B9.cell 1
         have u2 : w9.frozen? ⟨w.heap.size, 1, none⟩ = false := B9.free 1
         have u4 : w9.cell? ⟨w.heap.size + 1, 0, none⟩ = some (.slice none 0 0) := B9r.cell 0
         have u5 : w9.cell? ⟨w.heap.size + 1, 1, none⟩ = some (.slice none 0 0) := B9r.cell 1
         have u6 : w9.frozen? ⟨w.heap.size + 1, 0, none⟩ = false := B9r.free 0
         have u7 : w9.frozen? ⟨w.heap.size + 1, 1, none⟩ = false := B9r.free 1)
      have N9 := hNk.out.grown hgr HVB.out.2
      have E9 := own_back HE8.out (show w.heap.size ≤ w8.heap.size by omega) hgr (fun k hk => by have := HVB.out.1 k hk; omega)
      have hvb2 : ∀ k, (Value.slice B2 (m + q) d2).ownBlock = some k → w.heap.size + 2 ≤ k := fun k hk => (hown.lt k hk).1
      have O11 := (Only.refl w.heap.size w9).set 1 (.slice B2 (m + q) d2)
      have B11r := O11.bx B9r (by omega)
      have O12 := Only.two (w9.setCell ⟨w.heap.size, 1, none⟩ (.slice B2 (m + q) d2)) (w.heap.size + 1) (.slice (some ⟨g, 0, none⟩) n c') (.slice B2 (m + q) d2)
      have E12 := O12.new (O11.new E9 (Nat.le_refl _)) (by omega)
      have N12 := (N9.only O11 (by omega)).only O12 (by omega)
      have F12 := own_only (own_only hown O11 (fun e => by have := hvb2 _ e; omega)) O12 (fun e => by have := hvb2 _ e; omega)
      obtain ⟨cap1, cap2, _⟩ := own_cap F12
      refine bodyPost_ret (results_ar2 rfl _ _ (w.heap.size + 1) #[.slice (some ⟨g, 0, none⟩) n c', .slice B2 (m + q) d2] (by rfl) (B11r.two _ _) rfl) rfl (.inr ⟨nsk, hD.out, ?_⟩)
      refine ⟨g, c', B2, d2, rfl, cap1, cap2, ⟨N12.rd HLK.out, ?_, drops_ok hD.out HOK.out⟩, E12, by omega, fun x hx => by have := hvb2 x.block (by rw [hx]; rfl); omega⟩
      have := Rd.own F12
      unfold Ks at this ⊢
      rw [List.map_append]
      exact this

end Go.Proofs.Ytmfpgbiicncpcaa
