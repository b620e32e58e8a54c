/-
  The walk of ArenaReaches.
-/
import Derived.Test.YtmfpgbiicncpcaaDfs2
import Derived.Test.YtmfpgbiicncpcaaSeen
import Derived.Test.YtmfpgbiicncpcaaArMake3
import Derived.Carry
import Derived.Test.YtmfpgbiicncpcaaArOpen
set_option linter.unusedVariables false
set_option linter.unusedSimpArgs false
namespace Go.Proofs.Ytmfpgbiicncpcaa
open Go.RowKit

/-- Reach, whatever it is handed. -/
def ReachR (w : World) (ns : List Nd) (fs refs : List Int) (e : Ending) (w' : World) : Prop :=
  (¬ ArMay ns fs ∧ e = .returned (.tuple #[.slice none 0 0, .int .i64 1]) ∧ Ext w w') ∨ (ArMay ns fs ∧ ReachA w (reached ns refs) e w')
theorem reach_is (A B R : Option Addr) (n m c d nr cr : Nat) (ns : List Nd) (fs refs : List Int) (w : World) (h : Ar w A n B m ns fs) (hn : n ≤ 1000) (hm : m ≤ 1000) (hr : Rd w 1 R nr (Us refs)) (hnr : nr ≤ 1000) (hU : ∀ z ∈ refs, 0 ≤ z ∧ z ≤ 18446744073709551615) :
    Calls Try.prog 13 #[.agg #[.slice A n c, .slice B m d], .slice R nr cr] w (ReachR w ns fs refs) := by
  by_cases hmay : ArMay ns fs
  · exact (reach_yes A B R n m c d nr cr ns fs refs w h hn hm hmay hr hnr hU).mono fun e w' hR => .inr ⟨hmay, hR⟩
  · exact (reach_arg A B R n m c d nr cr ns fs w h hn hm hmay).mono fun e w' hR => .inl ⟨hmay, hR⟩

theorem wf_nat {p : Nat} (h : p < 1000) : (Lit.int .i64 (p : Int)).wf = true := by
  have h1 : IntKind.i64.min = -9223372036854775808 := by decide
  have h2 : IntKind.i64.max = 9223372036854775807 := by decide
  simp only [Lit.wf, h1, h2, Bool.and_eq_true, decide_eq_true_eq]
  omega

/-- What Reach tells, its length named. -/
def ReachL (w : World) (n : Nat) (l : List Int) (e : Ending) (w' : World) : Prop :=
  ∃ P q, e = .returned (.tuple #[.slice P n q, .int .i64 0]) ∧ Rd w' 1 P n (Ks .i64 l) ∧ n ≤ q ∧ q ≤ maxLen ∧ Ext w w'

set_option maxHeartbeats 3200000 in
set_option maxRecDepth 100000 in
theorem reaches_walk (A B : Option Addr) (n m c d : Nat) (ns : List Nd) (fs : List Int) (x y : Int) (w : World) (h : Ar w A n B m ns fs) (hnc : n ≤ c) (hmd : m ≤ d) (hc : c ≤ maxLen) (hd : d ≤ maxLen) (hx : 0 ≤ x ∧ x ≤ 18446744073709551615) (hy : 0 ≤ y ∧ y ≤ 18446744073709551615) :
    Calls Try.prog 6 #[.agg #[.slice A n c, .slice B m d], .int .u64 x, .int .u64 y] w fun e w' => e = .returned (.bool true) ∧ Ext w w' := by
  obtain ⟨w1, hw1⟩ : ∃ w1, w1 = w.alloc (.cells #[.slice A n c, .slice B m d] 25) := ⟨_, rfl⟩
  obtain ⟨B1, hx1, hs1⟩ := box_made hw1
  have hAn : A = none → n = 0 := fun e => by
    rcases Nat.eq_zero_or_pos n with h' | h'
    · exact h'
    · obtain ⟨ad, ha⟩ := h.nodes.some_ h' (by omega)
      rw [e] at ha; cases ha
  have hBn : B = none → m = 0 := fun e => by
    rcases Nat.eq_zero_or_pos m with h' | h'
    · exact h'
    · obtain ⟨ad, ha⟩ := h.free.some_ h' (by omega)
      rw [e] at ha; cases ha
  have HF := Lib.hid (few_is A B n m c d w1 hAn hBn hnc hmd hc hd)
  have HB1 := Lib.hid B1
  have X1 := Lib.hid hx1
  have H1 := Lib.hid hw1
  have HA := Lib.hid (h.few)
  have hn40 : min n 40 ≤ 40 := by omega
  have hm42 : min m 42 ≤ 42 := by omega
  generalize ns.take 40 = ns' at HA
  generalize fs.take 42 = fs' at HA
  generalize min n 40 = n' at HF HA hn40
  generalize min m 42 = m' at HF HA hm42
  have k0 : w1.cell? ⟨w.heap.size, 0, none⟩ = some (.slice A n c) := B1.cell 0
  have k1 : w1.cell? ⟨w.heap.size, 1, none⟩ = some (.slice B m d) := B1.cell 1
  have hU2 : ∀ (a b : Int), (0 ≤ a ∧ a ≤ 18446744073709551615) → (0 ≤ b ∧ b ≤ 18446744073709551615) → ∀ z ∈ [a, b], 0 ≤ z ∧ z ≤ 18446744073709551615 := fun a b ha hb z hz => by
    simp at hz
    rcases hz with rfl | rfl
    · exact ha
    · exact hb
  have HU := Lib.hid hU2
  have HXY := Lib.hid (And.intro hx hy)
  clear hw1 B1 hx1 hs1 hAn hBn h hU2 hx hy
  go_enter Try.func6, Try.ntmps6
  go_wp2_with fail
  rw [← H1.out]
  refine HF.out.mono ?_; rintro e w3 ⟨rfl, hx3⟩
  have k0 : w3.cell? ⟨w.heap.size, 0, none⟩ = some (.slice A n c) := (HB1.out.to hx3).cell 0
  have k1 : w3.cell? ⟨w.heap.size, 1, none⟩ = some (.slice B m d) := (HB1.out.to hx3).cell 1
  have k2 : w3.frozen? ⟨w.heap.size, 0, none⟩ = false := (HB1.out.to hx3).free 0
  have k3 : w3.frozen? ⟨w.heap.size, 1, none⟩ = false := (HB1.out.to hx3).free 1
  obtain ⟨w4, hw4⟩ : ∃ w4, w4 = (w3.setCell ⟨w.heap.size, 0, none⟩ (.slice A n' c)).setCell ⟨w.heap.size, 1, none⟩ (.slice B m' d) := ⟨_, rfl⟩
  have O4 : Only w.heap.size w3 w4 := by rw [hw4]; exact Only.two _ _ _ _
  have Ba : Bx w4 w.heap.size #[.slice A n' c, .slice B m' d] := by rw [hw4]; exact (HB1.out.to hx3).two _ _
  have E4 : Ext w w4 := O4.new (X1.out.step hx3) (Nat.le_refl _)
  have H4 := Lib.hid hw4
  have HBa := Lib.hid Ba
  have HE4 := Lib.hid E4
  have HA4 := Lib.hid (HA.out.to E4)
  have HD := Lib.hid (And.intro hc hd)
  clear hw4 O4 Ba E4 hx3 HA HF HB1 hnc hmd hc hd
  go_upto_region 2 with fail
  rw [← H4.out]
  clear k0 k1 k2 k3
  by_cases hmay : ArMay ns' fs'
  · have HRL := Lib.hid (fun (refs : List Int) (W : World) (hW : Ext w4 W) (R : Option Addr) (nr l : Nat) (hl : (reached ns' refs).length = l) (hr : Rd W 1 R nr (Us refs)) (h1 : nr ≤ 1000) (h2 : ∀ z ∈ refs, 0 ≤ z ∧ z ≤ 18446744073709551615) =>
      show Calls Try.prog 13 #[.agg #[.slice A n' c, .slice B m' d], .slice R nr nr] W (ReachL W l (reached ns' refs)) from hl ▸ reach_yes A B R n' m' c d nr nr ns' fs' refs W (HA4.out.to hW) (by omega) (by omega) hmay hr h1 h2)
    have HWR := Lib.hid (fun W (hW : Ext w4 W) => want_right A B n' m' c d ns' fs' W (HA4.out.to hW) (by omega) (by omega) true (by simp [hmay]))
    obtain ⟨l, hl⟩ : ∃ l, (reached ns' [x, y]).length = l := ⟨_, rfl⟩
    have hl2 : (reached ns' [y, x]).length = l := by rw [← (reached_swap ns' x y).1]; exact hl
    obtain ⟨l3, hl3⟩ : ∃ l, (reached ns' [x]).length = l := ⟨_, rfl⟩
    obtain ⟨tl, htl⟩ := reached_front ns' x y
    have hl13 : l3 ≤ l := by rw [← hl, ← hl3, htl, List.length_append]; omega
    have hl40 : l ≤ 40 := by have h1 := (reached_met ns' [x, y]).len; have := HA4.out.len; omega
    have hnl : ¬ l < l3 := by omega
    have HM1 := Lib.hid (reached_met ns' [x, y])
    have HM2 := Lib.hid (reached_swap ns' x y).2
    have HT := Lib.hid (show (reached ns' [x, y]).take l3 = reached ns' [x] by rw [htl, ← hl3]; simp)
    have HL1 := Lib.hid hl
    have HL2 := Lib.hid hl2
    have HL3 := Lib.hid hl3
    have HR1 := Lib.hid (HRL.out [x, y] (w4.alloc (.cells #[.int .u64 x, .int .u64 y] 27)) ((Ext.refl _).new _) (some ⟨w4.heap.size, 0, none⟩) 2 l hl (Rd.lit w4 #[.int .u64 x, .int .u64 y] 27 2 rfl) (by omega) (HU.out x y HXY.out.1 HXY.out.2))
    have HR2 := Lib.hid (fun W (hW : Ext w4 W) => HRL.out [y, x] (W.alloc (.cells #[.int .u64 y, .int .u64 x] 27)) (hW.new _) (some ⟨W.heap.size, 0, none⟩) 2 l hl2 (Rd.lit W #[.int .u64 y, .int .u64 x] 27 2 rfl) (by omega) (HU.out y x HXY.out.2 HXY.out.1))
    have HR3 := Lib.hid (fun W (hW : Ext w4 W) => HRL.out [x] (W.alloc (.cells #[.int .u64 x] 27)) (hW.new _) (some ⟨W.heap.size, 0, none⟩) 1 l3 hl3 (Rd.lit W #[.int .u64 x] 27 1 rfl) (by omega) (fun z hz => by simp at hz; rw [hz]; exact HXY.out.1))
    generalize reached ns' [x, y] = L1 at *
    generalize reached ns' [y, x] = L2 at *
    generalize reached ns' [x] = L3 at *
    clear hmay HRL htl hl hl2 hl3
    have k0 : w4.cell? ⟨w.heap.size, 0, none⟩ = some (.slice A n' c) := HBa.out.cell 0
    have k1 : w4.cell? ⟨w.heap.size, 1, none⟩ = some (.slice B m' d) := HBa.out.cell 1
    go_wp2_with fail
    refine HR1.out.mono ?_
    rintro e w5 ⟨P5, q5, rfl, hR5, hq5, hq5', hx5⟩
    have E5 := ((Ext.refl _).new _).step hx5
    have k0 : w5.cell? ⟨w.heap.size, 0, none⟩ = some (.slice A n' c) := (HBa.out.to E5).cell 0
    have k1 : w5.cell? ⟨w.heap.size, 1, none⟩ = some (.slice B m' d) := (HBa.out.to E5).cell 1
    have HE5 := Lib.hid E5
    have HR5 := Lib.hid hR5
    have HQ5 := Lib.hid (And.intro hq5 hq5')
    clear hx5 E5 hR5 hq5 hq5'
    go_wp2_with fail
    refine (HR2.out w5 HE5.out).mono ?_
    rintro e w6 ⟨P6, q6, rfl, hR6, hq6, hq6', hx6⟩
    have E6 := HE5.out.step (((Ext.refl _).new _).step hx6)
    have k0 : w6.cell? ⟨w.heap.size, 0, none⟩ = some (.slice A n' c) := (HBa.out.to E6).cell 0
    have k1 : w6.cell? ⟨w.heap.size, 1, none⟩ = some (.slice B m' d) := (HBa.out.to E6).cell 1
    have HE6 := Lib.hid E6
    have HE56 := Lib.hid (((Ext.refl _).new _).step hx6)
    have HR6 := Lib.hid hR6
    clear hx6 E6 hR6 hq6 hq6'
    go_wp2_with fail
    refine (HR3.out w6 HE6.out).mono ?_
    rintro e w7 ⟨P7, q7, rfl, hR7, hq7, hq7', hx7⟩
    have E7 := HE6.out.step (((Ext.refl _).new _).step hx7)
    have k0 : w7.cell? ⟨w.heap.size, 0, none⟩ = some (.slice A n' c) := (HBa.out.to E7).cell 0
    have k1 : w7.cell? ⟨w.heap.size, 1, none⟩ = some (.slice B m' d) := (HBa.out.to E7).cell 1
    have HE7 := Lib.hid E7
    have HE67 := Lib.hid (((Ext.refl _).new _).step hx7)
    have HR7 := Lib.hid hR7
    clear hx7 E7 hR7 hq7 hq7'
    go_wp2_with fail
    refine (HWR.out w7 HE7.out).mono ?_; rintro e w8 ⟨rfl, hx8⟩
    have HX8 := Lib.hid hx8
    clear hx8
    go_wp2_with fail
    refine (alive4 w8).mono ?_; rintro e w9 ⟨rfl, hx9⟩
    have HE9 := Lib.hid (HE7.out.step (HX8.out.step hx9))
    have HX79 := Lib.hid (HX8.out.step hx9)
    have hmm := @run_makeMap Try.prog
    clear hx9
    go_wp2_with fail
    go_loopw [15, 90] (fun _ j wr => Ext w9 wr ∧ ∃ k : Nat, k ≤ l ∧ j = .int .i64 k ∧ Hid (Seen wr 3 .i64 w9.heap.size (L1.take k))) (fun _ j _ => l - (intOf j).toNat)
    case atStart => exact ⟨(Ext.refl _).new _, 0, Nat.zero_le _, rfl, Lib.hid (by simpa using Seen.made w9 3 .i64)⟩
    case round =>
      obtain ⟨hxr, k, hk, rfl, hS⟩ := hrel
      rename World => wr
      by_cases hlt : k < l
      · obtain ⟨v, hv⟩ : ∃ v, L1[k]? = some v := ⟨_, List.getElem?_eq_getElem (by have := HL1.out; omega)⟩
        obtain ⟨p, xk, rfl, hxk, hkk⟩ := HM1.out.made v (List.mem_of_getElem? hv)
        have hA9 := HA4.out.to (HE9.out.step hxr)
        have hpn : p < n' := by have := (List.getElem?_eq_some_iff.1 hxk).1; have := hA9.len; omega
        have hpn' : ¬ n' ≤ p := by omega
        obtain ⟨ad, rfl, hnp⟩ := hA9.nodeAt hxk
        have c0 : wr.cell? (ad.add (p * 16)) = some (.int .i64 xk.k) := hnp.kc
        obtain ⟨kk, hkq⟩ : ∃ kk, kk = xk.k := ⟨_, rfl⟩
        rw [← hkq] at c0 hkk
        have e0 : (kk == 0) = false := by simp [hkk]
        have k0 : wr.cell? ⟨w.heap.size, 0, none⟩ = some (.slice (some ad) n' c) := (HBa.out.to (HE9.out.step hxr)).cell 0
        obtain ⟨pd, hpd, cv⟩ := (HR5.out.to (HE56.out.step (HE67.out.step (HX79.out.step hxr)))).2 k (.int .i64 p) (by simp [Ks, hv])
        subst hpd
        have HN := Lib.hid (show decide ((p : Int) ∈ L1.take k) = false from decide_eq_false (nodup_at HM1.out.nodup hv))
        have HV := Lib.hid (show L1.take (k + 1) = L1.take k ++ [(p : Int)] by rw [List.take_add_one, hv]; rfl)
        have hwf := wf_nat (show p < 1000 by omega)
        have hlen : (L1.take k).length < maxLen := by rw [List.length_take]; unfold maxLen; omega
        have HXr := Lib.hid hxr
        clear hv hxk hnp hA9 hkq hxr
        go_wp2_with (first
          | (at_lookup; refine wpList_lookup_seen (by rfl) _ _ 57 rfl 3 .i64 Try.underlying57 Try.underlying3 w9.heap.size _ rfl hS.out (p : Int) rfl hwf ?_; rw [HN.out])
          | (at_mapUpdate; refine wpList_update_seen rfl _ _ _ 57 rfl 3 .i64 Try.underlying57 Try.underlying3 w9.heap.size _ rfl hS.out hlen (p : Int) rfl rfl hwf ?_; intro wu hSu hOu))
        go_roundw
        case rel => exact ⟨hOu.new HXr.out (Nat.le_refl _), k + 1, by omega, by go_num, Lib.hid (by rw [HV.out]; exact hSu)⟩
        case measure => simp [intOf]; omega
      · have hT : L1.take k = L1 := List.take_of_length_le (by have := HL1.out; omega)
        rw [hT] at hS
        clear hT k0 k1
        go_wp2_with fail
        rename World => wq
        have HXq := Lib.hid hxr
        go_loopw [17, 122] (fun _ j wr => wr = wq ∧ ∃ k : Nat, k ≤ l ∧ j = .int .i64 k) (fun _ j _ => l - (intOf j).toNat)
        case atStart => exact ⟨rfl, 0, Nat.zero_le _, rfl⟩
        case round =>
          obtain ⟨rfl, k2, hk2, rfl⟩ := hrel
          by_cases hlt2 : k2 < l
          · obtain ⟨v, hv⟩ : ∃ v, L2[k2]? = some v := ⟨_, List.getElem?_eq_getElem (by have := HL2.out; omega)⟩
            have hin := HM2.out v (List.mem_of_getElem? hv)
            obtain ⟨p, xk, rfl, hxk, _⟩ := HM1.out.made v hin
            have hpn : p < n' := by have := (List.getElem?_eq_some_iff.1 hxk).1; have := HA4.out.len; omega
            obtain ⟨pd, hpd, cv⟩ := (HR6.out.to (HE67.out.step (HX79.out.step HXq.out))).2 k2 (.int .i64 p) (by simp [Ks, hv])
            subst hpd
            have HN := Lib.hid (show decide ((p : Int) ∈ L1) = true from decide_eq_true hin)
            have hwf := wf_nat (show p < 1000 by omega)
            clear hv hxk hin
            go_wp2_with (first
              | (at_lookup; refine wpList_lookup_seen (by rfl) _ _ 57 rfl 3 .i64 Try.underlying57 Try.underlying3 w9.heap.size _ rfl hS.out (p : Int) rfl hwf ?_; rw [HN.out]))
            go_roundw
            case rel => exact ⟨trivial, k2 + 1, by omega, by go_num⟩
            case measure => simp [intOf]; omega
          · have hq1 := HQ5.out.1
            have hq2 := HQ5.out.2
            have h3q : l3 ≤ q5 := by omega
            simp only [maxLen] at hq2
            have hP5 : P5 = none → l = 0 := fun e => by
              rcases Nat.eq_zero_or_pos l with h' | h'
              · exact h'
              · obtain ⟨ad, ha⟩ := HR5.out.some_ h' (by omega)
                rw [e] at ha; cases ha
            have hT2 : Rd wr 1 P5 l3 (Ks .i64 L3) := by
              have h1 := (HR5.out.to (HE56.out.step (HE67.out.step (HX79.out.step HXq.out)))).take (k := l3) hl13
              rw [Nat.mul_one] at h1
              have h2 : (Ks .i64 L1).take l3 = Ks .i64 L3 := by unfold Ks; rw [← List.map_take, HT.out]
              rw [h2] at h1
              exact h1
            have HSm := Lib.hid (same_is P5 P7 l3 l3 q5 q7 L3 L3 wr hT2 (HR7.out.to (HX79.out.step HXq.out)) (by omega) (by omega) true (by simp))
            go_wp2_with fail
            refine HSm.out.mono ?_; rintro e wz ⟨rfl, hxz⟩
            go_wp2_with fail
            go_ret
            exact ⟨rfl, HE4.out.step (HE9.out.step (HXq.out.step hxz))⟩
  · have HRL := Lib.hid (fun (W : World) (hW : Ext w4 W) (R : Option Addr) (nr : Nat) => reach_arg A B R n' m' c d nr nr ns' fs' W (HA4.out.to hW) (by omega) (by omega) hmay)
    have HWR := Lib.hid (fun W (hW : Ext w4 W) => want_right A B n' m' c d ns' fs' W (HA4.out.to hW) (by omega) (by omega) false (by simp [hmay]))
    clear hmay
    have k0 : w4.cell? ⟨w.heap.size, 0, none⟩ = some (.slice A n' c) := HBa.out.cell 0
    have k1 : w4.cell? ⟨w.heap.size, 1, none⟩ = some (.slice B m' d) := HBa.out.cell 1
    go_wp2_with fail
    refine (HRL.out _ ((Ext.refl _).new _) _ _).mono ?_
    rintro e w5 ⟨rfl, hx5⟩
    have E5 := ((Ext.refl _).new _).step hx5
    have k0 : w5.cell? ⟨w.heap.size, 0, none⟩ = some (.slice A n' c) := (HBa.out.to E5).cell 0
    have k1 : w5.cell? ⟨w.heap.size, 1, none⟩ = some (.slice B m' d) := (HBa.out.to E5).cell 1
    have HE5 := Lib.hid E5
    clear hx5 E5
    go_wp2_with fail
    refine (HRL.out _ (HE5.out.new _) _ _).mono ?_
    rintro e w6 ⟨rfl, hx6⟩
    have E6 := HE5.out.step (((Ext.refl _).new _).step hx6)
    have k0 : w6.cell? ⟨w.heap.size, 0, none⟩ = some (.slice A n' c) := (HBa.out.to E6).cell 0
    have k1 : w6.cell? ⟨w.heap.size, 1, none⟩ = some (.slice B m' d) := (HBa.out.to E6).cell 1
    have HE6 := Lib.hid E6
    clear hx6 E6
    go_wp2_with fail
    refine (HRL.out _ (HE6.out.new _) _ _).mono ?_
    rintro e w7 ⟨rfl, hx7⟩
    have E7 := HE6.out.step (((Ext.refl _).new _).step hx7)
    have k0 : w7.cell? ⟨w.heap.size, 0, none⟩ = some (.slice A n' c) := (HBa.out.to E7).cell 0
    have k1 : w7.cell? ⟨w.heap.size, 1, none⟩ = some (.slice B m' d) := (HBa.out.to E7).cell 1
    have HE7 := Lib.hid E7
    clear hx7 E7
    go_wp2_with fail
    refine (HWR.out w7 HE7.out).mono ?_; rintro e w8 ⟨rfl, hx8⟩
    have HX8 := Lib.hid (HE7.out.step hx8)
    clear hx8
    go_wp2_with fail
    refine (alive4 w8).mono ?_; rintro e w9 ⟨rfl, hx9⟩
    go_wp2_with fail
    go_ret
    exact ⟨rfl, HE4.out.step (HX8.out.step hx9)⟩

theorem ArenaReaches_walk (w : World) (A B : Option Addr) (n m c d : Nat) (ns : List Nd) (fs : List Int) (h : Ar w A n B m ns fs) (hn : n ≤ c) (hm : m ≤ d) (hc : c ≤ maxLen) (hd : d ≤ maxLen) (_ : ∀ z ∈ fs, (Lit.int .i64 z).wf = true) (x : Int) (hx : (Lit.int .u64 x).wf = true) (y : Int) (hy : (Lit.int .u64 y).wf = true) :
    Calls Try.prog 6 #[.agg #[.slice A n c, .slice B m d], .int .u64 x, .int .u64 y] w fun e w' => e = .returned (.bool true) ∧ Ext w w' :=
  reaches_walk A B n m c d ns fs x y w h hn hm hc hd (u64_bounds hx) (u64_bounds hy)

end Go.Proofs.Ytmfpgbiicncpcaa
