/-
  Contracts: Make, of an arena that has none free, and of one that has.
-/
import Derived.Test.YtmfpgbiicncpcaaMake
set_option linter.unusedVariables false
set_option linter.unusedSimpArgs false
namespace Go.Proofs.Ytmfpgbiicncpcaa
open Go.RowKit

set_option maxHeartbeats 1600000 in
theorem make_full (A B : Option Addr) (n c d : Nat) (ns : List Nd) (x : Nd) (w : World) (h : Ar w A n B 0 ns []) (hn : n ≤ 1000) (hx : x.Ok) (hmay : ArMay ns []) (hmk : x.Makes) :
    Calls Try.prog 12 #[.agg #[.slice A n c, .slice B 0 d], .agg x.arr] w fun e w' => e = .returned (.tuple #[.agg #[.slice none 0 0, .slice none 0 0], .int .u64 0, .int .i64 2]) ∧ Ext w w' := by
  obtain ⟨w1, hw1⟩ : ∃ w1, w1 = w.alloc (.cells #[.slice A n c, .slice B 0 d] 25) := ⟨_, rfl⟩
  obtain ⟨w2, hw2⟩ : ∃ w2, w2 = w1.alloc (.cells x.arr 30) := ⟨_, rfl⟩
  obtain ⟨w3, hw3⟩ : ∃ w3, w3 = w2.alloc (.cells #[.slice none 0 0, .slice none 0 0] 25) := ⟨_, rfl⟩
  obtain ⟨B1, hx1, hs1⟩ := box_made hw1
  obtain ⟨B2, hx2, hs2⟩ := box_made hw2
  obtain ⟨B3, hx3, hs3⟩ := box_made hw3
  rw [hs2, hs1] at B3
  rw [hs1] at B2
  have X3 := Lib.hid ((hx1.step hx2).step hx3)
  have HR := Lib.hid (arRight_is A B n 0 c d ns [] w3 (h.to X3.out) hn (Nat.zero_le _) true (by simp [hmay]))
  have HP := Lib.hid (fun W => rightParts_is x W hx)
  have k0 : w3.cell? ⟨w.heap.size, 0, none⟩ = some (.slice A n c) := (B1.to (hx2.step hx3)).cell 0
  have k1 : w3.cell? ⟨w.heap.size, 1, none⟩ = some (.slice B 0 d) := (B1.to (hx2.step hx3)).cell 1
  have HB2 := Lib.hid (B2.to hx3)
  have HB3 := Lib.hid B3
  have H1 := Lib.hid hw1
  have H2 := Lib.hid hw2
  have H3 := Lib.hid hw3
  have HM := Lib.hid hmay
  have HX := Lib.hid hmk
  have HA := Lib.hid (h.to X3.out)
  have HB1 := Lib.hid (B1.to (hx2.step hx3))
  obtain ⟨kk, hkk⟩ : ∃ kk, kk = x.k := ⟨_, rfl⟩
  have HK := Lib.hid hkk
  rw [decide_eq_true hmk.2.2] at HP
  have g1 : 1 ≤ kk := by rw [hkk]; exact hmk.1
  have g2 : kk ≤ 100 := by rw [hkk]; exact hmk.2.1
  have d1 : (kk < 1) = False := by simp; omega
  have d2 : (100 < kk) = False := by simp; omega
  have HE := Lib.hid (fun (W : World) (hW : Ext w3 W) => show Ext w ((W.setCell ⟨w.heap.size + 2, 0, none⟩ (.slice none 0 0)).setCell ⟨w.heap.size + 2, 1, none⟩ (.slice none 0 0)) ∧ Bx ((W.setCell ⟨w.heap.size + 2, 0, none⟩ (.slice none 0 0)).setCell ⟨w.heap.size + 2, 1, none⟩ (.slice none 0 0)) (w.heap.size + 2) #[.slice none 0 0, .slice none 0 0] from
    ⟨(Only.two W (w.heap.size + 2) _ _).new (X3.out.step hW) (by omega), (HB3.out.to hW).two _ _⟩)
  clear hw1 hw2 hw3 B1 B2 B3 hx1 hx2 hx3 hs1 hs2 hs3 hmay hmk hkk hx h
  go_enter Try.func12, Try.ntmps12
  go_wp2_with fail
  rw [← H1.out, ← H2.out, ← H3.out]
  go_wp2_with fail
  refine HR.out.mono ?_; rintro e w4 ⟨rfl, hx4⟩
  have c0 : w4.cell? ⟨w.heap.size + 1, 0, none⟩ = some (.int .i64 kk) := by rw [HK.out]; exact ((HB2.out.to hx4).cell 0).trans x.a0
  have hn4 := (HB2.out.to hx4).node
  have f0 : w4.cell? ⟨w.heap.size + 2, 0, none⟩ = some (.slice none 0 0) := (HB3.out.to hx4).cell 0
  have f1 : w4.cell? ⟨w.heap.size + 2, 1, none⟩ = some (.slice none 0 0) := (HB3.out.to hx4).cell 1
  have f2 : w4.frozen? ⟨w.heap.size + 2, 0, none⟩ = false := (HB3.out.to hx4).free 0
  have f3 : w4.frozen? ⟨w.heap.size + 2, 1, none⟩ = false := (HB3.out.to hx4).free 1
  have HX4 := Lib.hid hx4
  clear hx4
  go_wp2_with (refine wpList_load_nd (by rfl) _ (by rfl) _ (by rfl) x hn4 ?_)
  refine (HP.out _).mono ?_; rintro e w5 ⟨rfl, hx5⟩
  have q0 : w5.cell? ⟨w.heap.size, 0, none⟩ = some (.slice A n c) := (HB1.out.to (HX4.out.step hx5)).cell 0
  have q1 : w5.cell? ⟨w.heap.size, 1, none⟩ = some (.slice B 0 d) := (HB1.out.to (HX4.out.step hx5)).cell 1
  have f0 : w5.cell? ⟨w.heap.size + 2, 0, none⟩ = some (.slice none 0 0) := (HB3.out.to (HX4.out.step hx5)).cell 0
  have f1 : w5.cell? ⟨w.heap.size + 2, 1, none⟩ = some (.slice none 0 0) := (HB3.out.to (HX4.out.step hx5)).cell 1
  have f2 : w5.frozen? ⟨w.heap.size + 2, 0, none⟩ = false := (HB3.out.to (HX4.out.step hx5)).free 0
  have f3 : w5.frozen? ⟨w.heap.size + 2, 1, none⟩ = false := (HB3.out.to (HX4.out.step hx5)).free 1
  have HX5 := Lib.hid (HX4.out.step hx5)
  clear hx5 c0 hn4
  go_wp2_with fail
  refine bodyPost_ret (results_ar3 rfl _ _ (w.heap.size + 2) #[.slice none 0 0, .slice none 0 0] (by rfl) (HE.out _ HX5.out).2 rfl) rfl ⟨rfl, (HE.out _ HX5.out).1⟩

def MadeA (w : World) (n m : Nat) (ns : List Nd) (fs : List Int) (p : Nat) (x : Nd) (e : Ending) (w' : World) : Prop :=
  ∃ g c B, e = .returned (.tuple #[.agg #[.slice (some ⟨g, 0, none⟩) n c, .slice B m m], .int .u64 (65536 * x.g + p + 1), .int .i64 0]) ∧ Ar w' (some ⟨g, 0, none⟩) n B m (ns.set p x) (fs.take m) ∧ Ext w w' ∧ FrA w g B

set_option maxHeartbeats 3200000 in
theorem make_yes (A B : Option Addr) (n m c d : Nat) (ns : List Nd) (fs : List Int) (x : Nd) (p : Nat) (old : Nd) (w : World) (h : Ar w A n B (m + 1) ns fs) (hn : n ≤ 1000) (hx : x.Ok) (hmay : ArMay ns fs) (hmk : x.Makes) (hp : fs[m]? = some (p : Int)) (hold : ns[p]? = some old) :
    Calls Try.prog 12 #[.agg #[.slice A n c, .slice B (m + 1 : Nat) d], .agg x.arr] w (MadeA w n m ns fs p (x.gen old.g)) := by
  have hm : m + 1 ≤ 1000 := by have := hmay.len; have := h.len; have := h.lenF; omega
  have HPP := Lib.hid hp
  have HO := Lib.hid hold
  have hpn : p < n := by have := (List.getElem?_eq_some_iff.1 hold).1; have := h.len; omega
  have HMay := Lib.hid (show May (p : Int) old.g from by
    have h1 := (hmay.fits old (List.mem_of_getElem? hold)).1
    have h2 := hmay.le
    have h3 := h.len
    exact ⟨by omega, by omega, h1.1, h1.2⟩)
  have hlen := Lib.hid h.len
  have HOK := Lib.hid (show ∀ y ∈ ns.set p (x.gen old.g), y.Ok from fun y hy => by
    rcases List.mem_or_eq_of_mem_set hy with h' | h'
    · exact h.ok y h'
    · subst h'
      exact hx)
  clear hp hold
  obtain ⟨w1, hw1⟩ : ∃ w1, w1 = w.alloc (.cells #[.slice A n c, .slice B (m + 1 : Nat) d] 25) := ⟨_, rfl⟩
  obtain ⟨w2, hw2⟩ : ∃ w2, w2 = w1.alloc (.cells x.arr 30) := ⟨_, rfl⟩
  obtain ⟨w3, hw3⟩ : ∃ w3, w3 = w2.alloc (.cells #[.slice none 0 0, .slice none 0 0] 25) := ⟨_, rfl⟩
  obtain ⟨B1, hx1, hs1⟩ := box_made hw1
  obtain ⟨B2, hx2, hs2⟩ := box_made hw2
  obtain ⟨B3, hx3, hs3⟩ := box_made hw3
  rw [hs2, hs1] at B3
  rw [hs1] at B2
  have X3 := Lib.hid ((hx1.step hx2).step hx3)
  have HR := Lib.hid (arRight_is A B n (m + 1) c d ns fs w3 (h.to X3.out) hn hm true (by simp [hmay]))
  have HP := Lib.hid (fun W => rightParts_is x W hx)
  have k0 : w3.cell? ⟨w.heap.size, 0, none⟩ = some (.slice A n c) := (B1.to (hx2.step hx3)).cell 0
  have k1 : w3.cell? ⟨w.heap.size, 1, none⟩ = some (.slice B (m + 1 : Nat) d) := (B1.to (hx2.step hx3)).cell 1
  have HB2 := Lib.hid (B2.to hx3)
  have HB3 := Lib.hid B3
  have H1 := Lib.hid hw1
  have H2 := Lib.hid hw2
  have H3 := Lib.hid hw3
  have HM := Lib.hid hmay
  have HX := Lib.hid hmk
  have HA := Lib.hid (h.to X3.out)
  have HB1 := Lib.hid (B1.to (hx2.step hx3))
  obtain ⟨kk, hkk⟩ : ∃ kk, kk = x.k := ⟨_, rfl⟩
  have HK := Lib.hid hkk
  rw [decide_eq_true hmk.2.2] at HP
  have g1 : 1 ≤ kk := by rw [hkk]; exact hmk.1
  have g2 : kk ≤ 100 := by rw [hkk]; exact hmk.2.1
  have d1 : (kk < 1) = False := by simp; omega
  have d2 : (100 < kk) = False := by simp; omega
  have HE := Lib.hid (fun (W : World) (hW : Ext w3 W) => show Ext w ((W.setCell ⟨w.heap.size + 2, 0, none⟩ (.slice none 0 0)).setCell ⟨w.heap.size + 2, 1, none⟩ (.slice none 0 0)) ∧ Bx ((W.setCell ⟨w.heap.size + 2, 0, none⟩ (.slice none 0 0)).setCell ⟨w.heap.size + 2, 1, none⟩ (.slice none 0 0)) (w.heap.size + 2) #[.slice none 0 0, .slice none 0 0] from
    ⟨(Only.two W (w.heap.size + 2) _ _).new (X3.out.step hW) (by omega), (HB3.out.to hW).two _ _⟩)
  clear hw1 hw2 hw3 B1 B2 B3 hx1 hx2 hx3 hs1 hs2 hs3 hmay hmk hkk hx h
  go_enter Try.func12, Try.ntmps12
  go_wp2_with fail
  rw [← H1.out, ← H2.out, ← H3.out]
  go_wp2_with fail
  refine HR.out.mono ?_; rintro e w4 ⟨rfl, hx4⟩
  have c0 : w4.cell? ⟨w.heap.size + 1, 0, none⟩ = some (.int .i64 kk) := by rw [HK.out]; exact ((HB2.out.to hx4).cell 0).trans x.a0
  have hn4 := (HB2.out.to hx4).node
  have f0 : w4.cell? ⟨w.heap.size + 2, 0, none⟩ = some (.slice none 0 0) := (HB3.out.to hx4).cell 0
  have f1 : w4.cell? ⟨w.heap.size + 2, 1, none⟩ = some (.slice none 0 0) := (HB3.out.to hx4).cell 1
  have f2 : w4.frozen? ⟨w.heap.size + 2, 0, none⟩ = false := (HB3.out.to hx4).free 0
  have f3 : w4.frozen? ⟨w.heap.size + 2, 1, none⟩ = false := (HB3.out.to hx4).free 1
  have HX4 := Lib.hid hx4
  clear hx4
  go_wp2_with (refine wpList_load_nd (by rfl) _ (by rfl) _ (by rfl) x hn4 ?_)
  refine (HP.out _).mono ?_; rintro e w5 ⟨rfl, hx5⟩
  have q0 : w5.cell? ⟨w.heap.size, 0, none⟩ = some (.slice A n c) := (HB1.out.to (HX4.out.step hx5)).cell 0
  have q1 : w5.cell? ⟨w.heap.size, 1, none⟩ = some (.slice B (m + 1 : Nat) d) := (HB1.out.to (HX4.out.step hx5)).cell 1
  have f0 : w5.cell? ⟨w.heap.size + 2, 0, none⟩ = some (.slice none 0 0) := (HB3.out.to (HX4.out.step hx5)).cell 0
  have f1 : w5.cell? ⟨w.heap.size + 2, 1, none⟩ = some (.slice none 0 0) := (HB3.out.to (HX4.out.step hx5)).cell 1
  have f2 : w5.frozen? ⟨w.heap.size + 2, 0, none⟩ = false := (HB3.out.to (HX4.out.step hx5)).free 0
  have f3 : w5.frozen? ⟨w.heap.size + 2, 1, none⟩ = false := (HB3.out.to (HX4.out.step hx5)).free 1
  have HX5 := Lib.hid (HX4.out.step hx5)
  clear hx5 c0 hn4
  go_wp2_with fail
  refine (copied_is A B n (m + 1) c d ns fs _ (HA.out.to HX5.out) hn (by omega) hm).mono ?_
  rintro e w6 ⟨g, c', B', d', rfl, hN, hx6⟩
  have hge : w.heap.size + 3 ≤ g := by
    have h1 := hN.ge
    have h2 := HX5.out.size
    have h3 := HB3.out.lt
    omega
  have hvb : ∀ k, (Value.slice B' (m + 1) d').ownBlock = some k → w.heap.size + 3 ≤ k := fun k hk => by
    have h1 := (hN.free.lt k hk).1
    have h2 := HX5.out.size
    have h3 := HB3.out.lt
    omega
  have hap := hN.apart
  have X6 := HX5.out.step hx6
  have q0 : w6.cell? ⟨w.heap.size, 0, none⟩ = some (.slice A n c) := (HB1.out.to X6).cell 0
  have q1 : w6.cell? ⟨w.heap.size, 1, none⟩ = some (.slice B (m + 1 : Nat) d) := (HB1.out.to X6).cell 1
  have q2 : w6.frozen? ⟨w.heap.size, 0, none⟩ = false := (HB1.out.to X6).free 0
  have q3 : w6.frozen? ⟨w.heap.size, 1, none⟩ = false := (HB1.out.to X6).free 1
  obtain ⟨w7, hw7⟩ : ∃ w7, w7 = (w6.setCell ⟨w.heap.size, 0, none⟩ (.slice (some ⟨g, 0, none⟩) n c')).setCell ⟨w.heap.size, 1, none⟩ (.slice B' (m + 1) d') := ⟨_, rfl⟩
  have O7 : Only w.heap.size w6 w7 := by rw [hw7]; exact Only.two _ _ _ _
  have B7 : Bx w7 w.heap.size #[.slice (some ⟨g, 0, none⟩) n c', .slice B' (m + 1) d'] := by rw [hw7]; exact (HB1.out.to X6).two _ _
  have N7 : OwnN w7 g ns := hN.nodes.only O7 (by omega)
  have F7 := own_only hN.free O7 (fun e => by have := hvb _ e; omega)
  have B7n : Bx w7 (w.heap.size + 1) x.arr := O7.bx (HB2.out.to X6) (by omega)
  have B7r : Bx w7 (w.heap.size + 2) #[.slice none 0 0, .slice none 0 0] := O7.bx (HB3.out.to X6) (by omega)
  obtain ⟨cap1, cap2, _⟩ := own_cap F7
  have E7 : Ext w w7 := O7.new (X3.out.step X6) (Nat.le_refl _)
  have H7 := Lib.hid hw7
  have hN7 := Lib.hid (And.intro N7 (And.intro F7 (And.intro B7 (And.intro B7n (And.intro B7r E7)))))
  have hnx := Lib.hid (fun W (hW : Ext w7 W) => next_is B' m d' fs (p : Int) W ((Rd.own F7).to hW) (by omega) cap1 cap2 HPP.out)
  clear hN hx6 X6 hw7 O7 B7 N7 F7 B7n B7r E7 cap1 cap2 f0 f1 f2 f3
  go_wp2_with fail
  rw [← H7.out]
  refine (hnx.out _ (Ext.refl _)).mono ?_; rintro e w8 ⟨rfl, hx8⟩
  obtain ⟨N7, F7, B7, B7n, B7r, E7⟩ := hN7.out
  have B8 := B7.to hx8
  have B8n := B7n.to hx8
  have N8 := N7.to hx8
  have s0 : w8.cell? ⟨w.heap.size, 0, none⟩ = some (.slice (some ⟨g, 0, none⟩) n c') := B8.cell 0
  have s1 : w8.cell? ⟨g, p * 16 + 1, none⟩ = some (.int .i64 old.g) := (N8.at HO.out).gc
  have s2 : w8.cell? ⟨w.heap.size + 1, 1, none⟩ = some (.int .i64 x.g) := (B8n.cell 1).trans x.a1
  have s3 : w8.frozen? ⟨w.heap.size + 1, 1, none⟩ = false := B8n.free 1
  obtain ⟨gg, hgg⟩ : ∃ gg, gg = old.g := ⟨_, rfl⟩
  rw [← hgg] at s1 HMay
  obtain ⟨w9, hw9⟩ : ∃ w9, w9 = w8.setCell ⟨w.heap.size + 1, 1, none⟩ (.int .i64 gg) := ⟨_, rfl⟩
  have O9 : Only (w.heap.size + 1) w8 w9 := by rw [hw9]; exact (Only.refl _ _).set _ _
  have B9n : Bx w9 (w.heap.size + 1) (x.gen gg).arr := by
    rw [hw9]
    exact B8n.set (j := 1) (by rw [Nd.arr_size]; omega) (.int .i64 gg)
  have B9 : Bx w9 w.heap.size #[.slice (some ⟨g, 0, none⟩) n c', .slice B' (m + 1) d'] := O9.bx B8 (by omega)
  have B9r : Bx w9 (w.heap.size + 2) #[.slice none 0 0, .slice none 0 0] := O9.bx (B7r.to hx8) (by omega)
  have N9 : OwnN w9 g ns := N8.only O9 (by omega)
  have F9 := own_only (own_ext F7 hx8) O9 (fun e => by have := hvb _ e; omega)
  have E9 : Ext w w9 := O9.new (E7.step hx8) (by omega)
  have n9 := B9n.node
  have H9 := Lib.hid hw9
  have t0 : w9.cell? ⟨w.heap.size, 0, none⟩ = some (.slice (some ⟨g, 0, none⟩) n c') := B9.cell 0
  have hpl : p < ns.length := (List.getElem?_eq_some_iff.1 HO.out).1
  have h9 := Lib.hid (And.intro B9 (And.intro B9n (And.intro B9r (And.intro F9 E9))))
  have HG := Lib.hid hgg
  clear hx8 N7 F7 B7 B7n B7r E7 B8 B8n N8 hw9 hgg O9 B9 B9n B9r F9 E9 q0 q1 q2 q3
  go_wp2_with (first
    | (rw [← H9.out]; refine wpList_load_nd (by rfl) _ (by rfl) _ (by rfl) (x.gen gg) n9 ?_)
    | (refine wpList_store_in (by rfl) _ _ (by rfl) g p (by rfl) (x.gen gg) (by rfl) ns N9 hpl ?_
       intro w10 N10 O10
       obtain ⟨B9, B9n, B9r, F9, E9⟩ := h9.out
       have B10 := O10.bx B9 (by omega)
       have B10n := O10.bx B9n (by omega)
       have B10r := O10.bx B9r (by omega)
       have u0 : w10.cell? ⟨w.heap.size, 0, none⟩ = some (.slice (some ⟨g, 0, none⟩) n c') := B10.cell 0
       have u1 : w10.cell? ⟨w.heap.size, 1, none⟩ = some (.slice B' (m + 1) d') := B10.cell 1
       have u2 : w10.frozen? ⟨w.heap.size, 1, none⟩ = false := B10.free 1
       have u3 : w10.cell? ⟨w.heap.size + 1, 1, none⟩ = some (.int .i64 gg) := (B10n.cell 1).trans (Nd.a1 _)
       have u4 : w10.cell? ⟨w.heap.size + 2, 0, none⟩ = some (.slice none 0 0) := B10r.cell 0
       have u5 : w10.cell? ⟨w.heap.size + 2, 1, none⟩ = some (.slice none 0 0) := B10r.cell 1
       have u6 : w10.frozen? ⟨w.heap.size + 2, 0, none⟩ = false := B10r.free 0
       have u7 : w10.frozen? ⟨w.heap.size + 2, 1, none⟩ = false := B10r.free 1))
  refine (Of_yes (p : Int) gg _ HMay.out).mono ?_; rintro e w11 ⟨rfl, rfl⟩
  go_wp2_with fail
  have O11 := (Only.refl w.heap.size w10).set 1 (.slice B' m m)
  have B11r := O11.bx B10r (by omega)
  have O12 := Only.two (w10.setCell ⟨w.heap.size, 1, none⟩ (.slice B' m m)) (w.heap.size + 2) (.slice (some ⟨g, 0, none⟩) n c') (.slice B' m m)
  have E12 := O12.new (O11.new (O10.new E9 (by omega)) (Nat.le_refl _)) (by omega)
  have N12 := (N10.only O11 (by omega)).only O12 (by omega)
  have F12 := own_only (own_only (own_only F9 O10 hap) O11 (fun e => by have := hvb _ e; omega)) O12 (fun e => by have := hvb _ e; omega)
  have hgg := HG.out
  subst hgg
  refine bodyPost_ret (results_ar3 rfl _ _ (w.heap.size + 1 + 1) #[.slice (some ⟨g, 0, none⟩) n c', .slice B' m m] (by rfl) (B11r.two _ _) rfl) rfl ?_
  refine ⟨g, c', B', rfl, ⟨N12.rd (by rw [List.length_set]; exact hlen.out), ?_, HOK.out⟩, E12, by omega, fun q hq => by have := hvb q.block (by rw [hq]; rfl); omega⟩
  have := (Rd.own F12).take (k := m) (by omega)
  rw [Nat.mul_one] at this
  unfold Ks at this ⊢
  rw [List.map_take]
  exact this

end Go.Proofs.Ytmfpgbiicncpcaa
