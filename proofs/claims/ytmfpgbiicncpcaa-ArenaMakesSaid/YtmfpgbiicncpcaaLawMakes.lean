/-
  The walk of ArenaMakes.
-/
import Derived.Test.YtmfpgbiicncpcaaArMake3
set_option linter.unusedVariables false
set_option linter.unusedSimpArgs false
namespace Go.Proofs.Ytmfpgbiicncpcaa
open Go.RowKit

/-- What a made node leaves: nothing, or an arena in variable b. -/
def MadeOut (W : World) (b n m : Nat) (ns : List Nd) (r k : Int) : Prop :=
  k ≠ 0 ∨ (k = 0 ∧ ∃ (g c' : Nat) (B' : Option Addr) (m' p : Nat) (old y : Nd), Bx W b #[.slice (some ⟨g, 0, none⟩) n c', .slice B' m' m'] ∧ m = m' + 1 ∧ r % 65536 = p + 1 ∧ ns[p]? = some old ∧ old.k = 0 ∧ OwnRd W g n (ns.set p y))
  where OwnRd (W : World) (g n : Nat) (ns : List Nd) : Prop := Rd W 16 (some ⟨g, 0, none⟩) n (flat Nd.cells ns)
def DroppedOut (W : World) (b n m : Nat) (ns : List Nd) (fs : List Int) (z k : Int) : Prop :=
  (k ≠ 0 ∧ (¬ ArMay ns fs ∨ drop1 ns z = none)) ∨ (k = 0 ∧ ∃ (g c' d' : Nat) (B' : Option Addr) (p : Nat) (y : Nd), Bx W b #[.slice (some ⟨g, 0, none⟩) n c', .slice B' (m + 1 : Nat) d'] ∧ z = p ∧ p < n ∧ y.k = 0 ∧ Ar W (some ⟨g, 0, none⟩) n B' (m + 1) (ns.set p y) (fs ++ [z]))

set_option maxHeartbeats 3200000 in
set_option maxRecDepth 100000 in
theorem makes_walk (A B : Option Addr) (n m c d : Nat) (ns : List Nd) (fs : List Int) (x : Nd) (z : Int) (w : World) (h : Ar w A n B m ns fs) (hnc : n ≤ c) (hmd : m ≤ d) (hc : c ≤ maxLen) (hd : d ≤ maxLen) (hx : x.Ok) :
    Calls Try.prog 8 #[.agg #[.slice A n c, .slice B m d], .agg x.arr, .int .i64 z] w fun e w' => e = .returned (.bool true) ∧ Ext w w' := by
  obtain ⟨w1, hw1⟩ : ∃ w1, w1 = w.alloc (.cells #[.slice A n c, .slice B m d] 25) := ⟨_, rfl⟩
  obtain ⟨w2, hw2⟩ : ∃ w2, w2 = w1.alloc (.cells x.arr 30) := ⟨_, rfl⟩
  obtain ⟨B1, hx1, hs1⟩ := box_made hw1
  obtain ⟨B2, hx2, hs2⟩ := box_made hw2
  rw [hs1] at B2
  have X2 := Lib.hid (hx1.step hx2)
  have hAn : A = none → n = 0 := fun e => by
    rcases Nat.eq_zero_or_pos n with h' | h'
    · exact h'
    · obtain ⟨ad, ha⟩ := h.nodes.some_ h' (by omega)
      rw [e] at ha; cases ha
  have hBn : B = none → m = 0 := fun e => by
    rcases Nat.eq_zero_or_pos m with h' | h'
    · exact h'
    · obtain ⟨ad, ha⟩ := h.free.some_ h' (by omega)
      rw [e] at ha; cases ha
  have HF := Lib.hid (few_is A B n m c d w2 hAn hBn hnc hmd hc hd)
  have k0 : w2.cell? ⟨w.heap.size, 0, none⟩ = some (.slice A n c) := (B1.to hx2).cell 0
  have k1 : w2.cell? ⟨w.heap.size, 1, none⟩ = some (.slice B m d) := (B1.to hx2).cell 1
  have HB1 := Lib.hid (B1.to hx2)
  have HB2 := Lib.hid B2
  have H1 := Lib.hid hw1
  have H2 := Lib.hid hw2
  have HA := Lib.hid (h.few)
  have hn40 : min n 40 ≤ 40 := by omega
  have hm42 : min m 42 ≤ 42 := by omega
  generalize ns.take 40 = ns' at HA
  generalize fs.take 42 = fs' at HA
  generalize min n 40 = n' at HF HA hn40
  generalize min m 42 = m' at HF HA hm42
  clear hw1 hw2 B1 B2 hx1 hx2 hs1 hs2 hAn hBn h
  go_enter Try.func8, Try.ntmps8
  go_wp2_with fail
  rw [← H1.out, ← H2.out]
  refine HF.out.mono ?_; rintro e w3 ⟨rfl, hx3⟩
  have k0 : w3.cell? ⟨w.heap.size, 0, none⟩ = some (.slice A n c) := (HB1.out.to hx3).cell 0
  have k1 : w3.cell? ⟨w.heap.size, 1, none⟩ = some (.slice B m d) := (HB1.out.to hx3).cell 1
  have k2 : w3.frozen? ⟨w.heap.size, 0, none⟩ = false := (HB1.out.to hx3).free 0
  have k3 : w3.frozen? ⟨w.heap.size, 1, none⟩ = false := (HB1.out.to hx3).free 1
  obtain ⟨w4, hw4⟩ : ∃ w4, w4 = (w3.setCell ⟨w.heap.size, 0, none⟩ (.slice A n' c)).setCell ⟨w.heap.size, 1, none⟩ (.slice B m' d) := ⟨_, rfl⟩
  have O4 : Only w.heap.size w3 w4 := by rw [hw4]; exact Only.two _ _ _ _
  have Ba : Bx w4 w.heap.size #[.slice A n' c, .slice B m' d] := by rw [hw4]; exact (HB1.out.to hx3).two _ _
  have Bn : Bx w4 (w.heap.size + 1) x.arr := O4.bx (HB2.out.to hx3) (by omega)
  have E4 : Ext w w4 := O4.new (X2.out.step hx3) (Nat.le_refl _)
  have H4 := Lib.hid hw4
  have HBa := Lib.hid Ba
  have HBn := Lib.hid Bn
  have HE4 := Lib.hid E4
  have HA4 := Lib.hid (HA.out.to E4)
  have HD := Lib.hid (And.intro hc hd)
  clear hw4 O4 Ba Bn E4 hx3 HA HF HB1 HB2 hnc hmd hc hd
  go_upto_region 2 with fail
  rw [← H4.out]
  clear k0 k1 k2 k3
  go_cut [7, 8, 9] (fun s7 s8 s9 wx => Ext w4 wx ∧ ∃ (b : Nat) (r e : Int), s7 = .pointer (some ⟨b, 0, none⟩) ∧ s8 = .int .u64 r ∧ s9 = .int .i64 e ∧ 0 ≤ r ∧ r ≤ 18446744073709551615 ∧ Hid (MadeOut wx b n' m' ns' r e))
  case first =>
    have k0 : w4.cell? ⟨w.heap.size, 0, none⟩ = some (.slice A n' c) := HBa.out.cell 0
    have k1 : w4.cell? ⟨w.heap.size, 1, none⟩ = some (.slice B m' d) := HBa.out.cell 1
    have hn4 := HBn.out.node
    have HM := Lib.hid (make_is A B n' m' c d ns' fs' x w4 HA4.out (by omega) (by omega) hx)
    go_wp2_with (refine wpList_load_nd (by rfl) _ (by rfl) _ (by rfl) x hn4 ?_)
    refine HM.out.mono ?_
    rintro e w5 (⟨kk, hk0, _, _, _, rfl, hx5⟩ | ⟨mm, p, old, rfl, hp, ho, hok, hmay, hmk, g, c', B', rfl, hA5, hx5, hf5⟩)
    · go_wp2_with fail
      go_meet
      case rel => exact ⟨hx5.step ((Ext.refl _).new _), _, _, _, rfl, rfl, rfl, by omega, by omega, Lib.hid (.inl hk0)⟩
    · have hp5 : p < 512 := by
        have h1 := (List.getElem?_eq_some_iff.1 ho).1
        have h2 := hmay.le
        omega
      have hg5 := (hmay.fits old (List.mem_of_getElem? ho)).1
      go_wp2_with fail
      go_meet
      case rel => exact ⟨hx5.step ((Ext.refl _).new _), _, _, _, rfl, rfl, rfl, by show 0 ≤ 65536 * old.g + p + 1; omega, by show 65536 * old.g + p + 1 ≤ _; omega, Lib.hid (.inr ⟨rfl, g, c', B', mm, p, old, x.gen old.g, Bx.new _ _ _, rfl, by show (65536 * old.g + p + 1) % 65536 = p + 1; omega, ho, hok, (hA5.to ((Ext.refl _).new _)).nodes⟩)⟩
  case rest =>
    obtain ⟨hx5, b, r, e, rfl, rfl, rfl, hr0, hr1, hM⟩ := hcut
    rename World => w5
    go_upto_if 27 with fail
    go_cut [] (fun wx => Ext w5 wx)
    case first =>
      rcases hM.out with he | ⟨rfl, g, c', B', mm, p, old, y, hBb, rfl, hrp, ho, hok, hR5⟩
      · have e0 : (e == 0) = false := by simp [he]
        go_wp2_with fail
        go_meet
        case rel => exact Ext.refl _
      · have HBb := Lib.hid hBb
        have HR5 := Lib.hid hR5
        have HA5 := Lib.hid (HA4.out.to hx5)
        have HL := Lib.hid HA5.out.len
        have hpn : p < n' := by have := (List.getElem?_eq_some_iff.1 ho).1; have := HL.out; omega
        obtain ⟨ad, rfl, hnp⟩ := HA5.out.nodeAt ho
        have c0 : w5.cell? (ad.add (p * 16)) = some (.int .i64 0) := by rw [← hok]; exact hnp.kc
        have k0 : w5.cell? ⟨w.heap.size, 0, none⟩ = some (.slice (some ad) n' c) := (HBa.out.to hx5).cell 0
        have k1 : w5.cell? ⟨w.heap.size, 1, none⟩ = some (.slice B (mm + 1 : Nat) d) := (HBa.out.to hx5).cell 1
        have b0 : w5.cell? ⟨b, 0, none⟩ = some (.slice (some ⟨g, 0, none⟩) n' c') := hBb.cell 0
        have b1 : w5.cell? ⟨b, 1, none⟩ = some (.slice B' mm mm) := hBb.cell 1
        have e1 : IntKind.i64.wrap (r % 65536 - 1) = (p : Int) := by rw [hrp, IntKind.wrap_i64]; omega
        have e2 : IntKind.i64.wrap ((mm : Int) + 1 - 1) = (mm : Int) := by rw [IntKind.wrap_i64]; omega
        have e3 : ¬ n' ≤ p := by omega
        clear hBb hR5 ho hok hnp
        go_upto_region 7 with fail
        go_wp2_with fail
        go_loopw [11, 12, 72] (fun _ _ j wr => Ext w5 wr ∧ ∃ k : Nat, k ≤ n' ∧ j = .int .i64 k) (fun _ _ j _ => n' - (intOf j).toNat)
        case atStart => exact ⟨Ext.refl _, 0, Nat.zero_le _, rfl⟩
        case round =>
          obtain ⟨hx7, k, hk, rfl⟩ := hrel
          rename World => w7
          by_cases hlt : k < n'
          · obtain ⟨xk, hxk⟩ : ∃ xk, ns'[k]? = some xk := ⟨_, List.getElem?_eq_getElem (by have := HL.out; omega)⟩
            obtain ⟨ad', had, hnk⟩ := (HA5.out.to hx7).nodeAt hxk
            obtain rfl : ad = ad' := Option.some.inj had
            have HXK := Lib.hid hxk
            obtain ⟨w8, hw8⟩ : ∃ w8, w8 = w7.alloc (.cells xk.arr 30) := ⟨_, rfl⟩
            obtain ⟨B8, hx8, _⟩ := box_made hw8
            have hn8 := B8.node
            have s0 : ∀ q : Later w8, q.w.cell? ⟨b, 0, none⟩ = some (.slice (some ⟨g, 0, none⟩) n' c') := fun q => (HBb.out.to ((hx7.step hx8).step q.ext)).cell 0
            have H8 := Lib.hid hw8
            have HX8 := Lib.hid (hx7.step hx8)
            clear hxk had B8 hw8 hx8 k0 k1 b0 b1 c0
            by_cases hkp : k = p
            · subst hkp
              have e4 : ((k : Int) != (k : Int)) = false := by simp
              go_wp2_with (first
                | (refine wpList_load_nd (by rfl) _ (by rfl) _ (by rfl) xk hnk ?_)
                | (refine wpList_store_nd (W := w7) (by rfl) _ _ (by rfl) (by rfl) xk (by rfl) _ (by rfl) (by rfl) ?_; rw [← H8.out]))
              try simp only [Act.put]
              refine wp_region_later w8 (Ext.refl _) (by kernel_rfl) (by kernel_rfl) ?_
              repeat (go_big_quiet_step (fail))
              refine wpQuiet_nil ?_
              rintro _ ⟨q, rfl⟩
              go_wp2_with fail
              go_roundw
              case rel => exact ⟨HX8.out.step q.ext, k + 1, by omega, by go_num⟩
              case measure => simp [intOf]; omega
            · have hbk := Lib.hid (show (ns'.set p y)[k]? = some xk by rw [List.getElem?_set_ne (Ne.symm hkp)]; exact HXK.out)
              obtain ⟨ad2, had2, hnb⟩ := NdAt.of (HR5.out.to HX8.out) hbk.out
              obtain rfl : (⟨g, 0, none⟩ : Addr) = ad2 := Option.some.inj had2
              rw [addr_zero] at hnb
              have heq : ∀ W, (Op.equalIn 10000 30 (.agg xk.arr) (.agg xk.arr)).run Try.prog W = .ok true W := fun W => by rw [nd_eq]; simp
              have e4 : ((k : Int) == (p : Int)) = false := by simp; omega
              have e5 : ((k : Int) != (p : Int)) = true := by simp; omega
              have e6 : (k == p) = false := by simp [hkp]
              have e7 : (k != p) = true := by simp [hkp]
              clear had2
              go_wp2_with (first
                | (refine wpList_load_nd (by rfl) _ (by rfl) _ (by rfl) xk hnk ?_)
                | (refine wpList_store_nd (W := w7) (by rfl) _ _ (by rfl) (by rfl) xk (by rfl) _ (by rfl) (by rfl) ?_; rw [← H8.out]))
              try simp only [Act.put]
              refine wp_region_later w8 (Ext.refl _) (by kernel_rfl) (by kernel_rfl) ?_
              repeat (first
                | (refine wpQuiet_load_nd (by rfl) _ (by rfl) _ (by rfl) xk hnb ?_; simp only [Act.put, List.setIfInBounds_toArray, List.set_cons_zero, List.set_cons_succ])
                | (refine wpQuiet_load_nd (by rfl) _ (by rfl) _ (by rfl) xk hn8 ?_; simp only [Act.put, List.setIfInBounds_toArray, List.set_cons_zero, List.set_cons_succ])
                | go_big_quiet_step (fail))
              refine wpQuiet_nil ?_
              rintro _ ⟨q, rfl⟩
              go_wp2_with fail
              go_roundw
              case rel => exact ⟨HX8.out.step q.ext, k + 1, by omega, by go_num⟩
              case measure => simp [intOf]; omega
          · go_wp2_with fail
            go_meet
            case rel => exact hx7
    case rest =>
      rename World => wq
      have hxq : Ext w5 wq := hcut
      have E5q := Lib.hid (hx5.step hxq)
      have HAq := Lib.hid (HA4.out.to E5q.out)
      clear hM
      go_upto_region 13 with fail
      go_cut [13, 14] (fun s13 s14 wx => Ext wq wx ∧ ∃ (b : Nat) (e : Int), s13 = .pointer (some ⟨b, 0, none⟩) ∧ s14 = .int .i64 e ∧ Hid (DroppedOut wx b n' m' ns' fs' z e))
      case first =>
        have k0 : wq.cell? ⟨w.heap.size, 0, none⟩ = some (.slice A n' c) := (HBa.out.to E5q.out).cell 0
        have k1 : wq.cell? ⟨w.heap.size, 1, none⟩ = some (.slice B m' d) := (HBa.out.to E5q.out).cell 1
        have HDr := Lib.hid (drop_all A B (some ⟨wq.heap.size, 0, none⟩) n' m' c d 1 1 ns' fs' [z] (wq.alloc (.cells #[.int .i64 z] 3)) (HAq.out.to ((Ext.refl _).new _)) (by omega) (by omega) (by omega) (Rd.lit wq #[.int .i64 z] 3 1 rfl))
        go_wp2_with fail
        refine HDr.out.mono ?_
        have hds : drops ns' [z] = drop1 ns' z := by
          simp only [drops]
          cases drop1 ns' z <;> rfl
        rintro e w6 (⟨hno, rfl, hx6⟩ | ⟨hmay, nsd, hdr, g, c', B', d', rfl, _, _, hA6, hx6, hf6⟩)
        · rw [hds] at hno
          go_wp2_with fail
          go_meet
          case rel => exact ⟨(((Ext.refl _).new _).step hx6).step ((Ext.refl _).new _), _, _, rfl, rfl, Lib.hid (.inl ⟨by omega, hno⟩)⟩
        · rw [hds] at hdr
          obtain ⟨p, xo, rfl, ho, hok, rfl⟩ := drop1_some hdr
          go_wp2_with fail
          go_meet
          case rel => exact ⟨(((Ext.refl _).new _).step hx6).step ((Ext.refl _).new _), _, _, rfl, rfl, Lib.hid (.inr ⟨rfl, g, c', d', B', p, bare (foll xo.g), Bx.new _ _ _, rfl, by have := (List.getElem?_eq_some_iff.1 ho).1; have := HAq.out.len; omega, rfl, hA6.to ((Ext.refl _).new _)⟩)⟩
      case rest =>
        obtain ⟨hx6, b, e, rfl, rfl, hM⟩ := hcut
        rename World => w6
        have E6 := Lib.hid (And.intro (E5q.out.step hx6) hx6)
        have HA6 := Lib.hid (HAq.out.to hx6)
        have HL := Lib.hid HA6.out.len
        have HLF := Lib.hid HA6.out.lenF
        rcases hM.out with ⟨he, hwhy⟩ | ⟨rfl, g, c', d', B', p, y, hBb, rfl, hpn, hyk, hA7⟩
        · have e0 : (e == 0) = false := by simp [he]
          have e1 : (e != 0) = true := by simp [he]
          have HAl := Lib.hid (alive4 w6)
          have HEnd := Lib.hid (HE4.out.step E6.out.1)
          by_cases hmay : ArMay ns' fs'
          · have hd := hwhy.resolve_left (fun h => h hmay)
            have HR := Lib.hid (fun W (hW : Ext w6 W) => want_right A B n' m' c d ns' fs' W (HA6.out.to hW) (by omega) (by omega) true (by simp [hmay]))
            by_cases z0 : z < 0
            · clear hmay hwhy hM
              go_wp2_with fail
              refine HAl.out.mono ?_; rintro e w7 ⟨rfl, hx7⟩
              have k0 : w7.cell? ⟨w.heap.size, 0, none⟩ = some (.slice A n' c) := ((HBa.out.to E6.out.1).to hx7).cell 0
              have k1 : w7.cell? ⟨w.heap.size, 1, none⟩ = some (.slice B m' d) := ((HBa.out.to E6.out.1).to hx7).cell 1
              have HX7 := Lib.hid hx7
              clear hx7
              go_wp2_with fail
              refine (HR.out _ HX7.out).mono ?_; rintro e w8 ⟨rfl, hx8⟩
              have k2 : w8.cell? ⟨w.heap.size, 0, none⟩ = some (.slice A n' c) := ((HBa.out.to E6.out.1).to (HX7.out.step hx8)).cell 0
              have HX8 := Lib.hid (HX7.out.step hx8)
              clear hx8
              go_wp2_with fail
              go_ret
              exact ⟨rfl, HEnd.out.step HX8.out⟩
            · by_cases z1 : z < n'
              · obtain ⟨p, rfl⟩ : ∃ p : Nat, z = p := ⟨z.toNat, by omega⟩
                have hpn : p < n' := by omega
                have hnp' : ¬ n' ≤ p := by omega
                obtain ⟨xo, ho⟩ : ∃ xo, ns'[p]? = some xo := ⟨_, List.getElem?_eq_getElem (by have := HL.out; omega)⟩
                have hk := drop1_none hd p xo rfl ho
                obtain ⟨ad, rfl, hnp⟩ := HA6.out.nodeAt ho
                have HN := Lib.hid hnp
                have HKK := Lib.hid hk
                clear hd ho hnp hk
                clear hmay hwhy hM
                go_wp2_with fail
                refine HAl.out.mono ?_; rintro e w7 ⟨rfl, hx7⟩
                have k0 : w7.cell? ⟨w.heap.size, 0, none⟩ = some (.slice (some ad) n' c) := ((HBa.out.to E6.out.1).to hx7).cell 0
                have k1 : w7.cell? ⟨w.heap.size, 1, none⟩ = some (.slice B m' d) := ((HBa.out.to E6.out.1).to hx7).cell 1
                have HX7 := Lib.hid hx7
                clear hx7
                go_wp2_with fail
                refine (HR.out _ HX7.out).mono ?_; rintro e w8 ⟨rfl, hx8⟩
                have k2 : w8.cell? ⟨w.heap.size, 0, none⟩ = some (.slice (some ad) n' c) := ((HBa.out.to E6.out.1).to (HX7.out.step hx8)).cell 0
                have c0 : w8.cell? (ad.add (p * 16)) = some (.int .i64 0) := by rw [← HKK.out]; exact (HN.out.to (HX7.out.step hx8)).kc
                have HX8 := Lib.hid (HX7.out.step hx8)
                clear hx8
                go_wp2_with fail
                go_ret
                exact ⟨rfl, HEnd.out.step HX8.out⟩
              · have z2 : (n' : Int) ≤ z := by omega
                clear hmay hwhy hM
                go_wp2_with fail
                refine HAl.out.mono ?_; rintro e w7 ⟨rfl, hx7⟩
                have k0 : w7.cell? ⟨w.heap.size, 0, none⟩ = some (.slice A n' c) := ((HBa.out.to E6.out.1).to hx7).cell 0
                have k1 : w7.cell? ⟨w.heap.size, 1, none⟩ = some (.slice B m' d) := ((HBa.out.to E6.out.1).to hx7).cell 1
                have HX7 := Lib.hid hx7
                clear hx7
                go_wp2_with fail
                refine (HR.out _ HX7.out).mono ?_; rintro e w8 ⟨rfl, hx8⟩
                have k2 : w8.cell? ⟨w.heap.size, 0, none⟩ = some (.slice A n' c) := ((HBa.out.to E6.out.1).to (HX7.out.step hx8)).cell 0
                have HX8 := Lib.hid (HX7.out.step hx8)
                clear hx8
                go_wp2_with fail
                go_ret
                exact ⟨rfl, HEnd.out.step HX8.out⟩
          · have HR := Lib.hid (fun W (hW : Ext w6 W) => want_right A B n' m' c d ns' fs' W (HA6.out.to hW) (by omega) (by omega) false (by simp [hmay]))
            clear hmay hwhy hM
            go_wp2_with fail
            refine HAl.out.mono ?_; rintro e w7 ⟨rfl, hx7⟩
            have k0 : w7.cell? ⟨w.heap.size, 0, none⟩ = some (.slice A n' c) := ((HBa.out.to E6.out.1).to hx7).cell 0
            have k1 : w7.cell? ⟨w.heap.size, 1, none⟩ = some (.slice B m' d) := ((HBa.out.to E6.out.1).to hx7).cell 1
            have HX7 := Lib.hid hx7
            clear hx7
            go_wp2_with fail
            refine (HR.out _ HX7.out).mono ?_; rintro e w8 ⟨rfl, hx8⟩
            go_wp2_with fail
            go_ret
            exact ⟨rfl, HEnd.out.step (HX7.out.step hx8)⟩
        · obtain ⟨xo, ho⟩ : ∃ xo, ns'[p]? = some xo := ⟨_, List.getElem?_eq_getElem (by have := HL.out; omega)⟩
          obtain ⟨ad, rfl, _⟩ := HA6.out.nodeAt ho
          have HBb := Lib.hid hBb
          have HR6 := Lib.hid hA7
          have HR6n := Lib.hid hA7.nodes
          have k0 : w6.cell? ⟨w.heap.size, 0, none⟩ = some (.slice (some ad) n' c) := (HBa.out.to E6.out.1).cell 0
          have k1 : w6.cell? ⟨w.heap.size, 1, none⟩ = some (.slice B m' d) := (HBa.out.to E6.out.1).cell 1
          have b0 : w6.cell? ⟨b, 0, none⟩ = some (.slice (some ⟨g, 0, none⟩) n' c') := hBb.cell 0
          have b1 : w6.cell? ⟨b, 1, none⟩ = some (.slice B' (m' + 1 : Nat) d') := hBb.cell 1
          clear hBb hA7 ho hM
          go_wp2_with fail
          go_loopw [15, 16, 128] (fun _ _ j wr => Ext w6 wr ∧ ∃ k : Nat, k ≤ n' ∧ j = .int .i64 k) (fun _ _ j _ => n' - (intOf j).toNat)
          case atStart => exact ⟨Ext.refl _, 0, Nat.zero_le _, rfl⟩
          case round =>
            obtain ⟨hx7, k, hk, rfl⟩ := hrel
            rename World => w7
            by_cases hlt : k < n'
            · obtain ⟨xk, hxk⟩ : ∃ xk, ns'[k]? = some xk := ⟨_, List.getElem?_eq_getElem (by have := HL.out; omega)⟩
              obtain ⟨ad', had, hnk⟩ := (HA6.out.to hx7).nodeAt hxk
              obtain rfl : ad = ad' := Option.some.inj had
              have HXK := Lib.hid hxk
              obtain ⟨w8, hw8⟩ : ∃ w8, w8 = w7.alloc (.cells xk.arr 30) := ⟨_, rfl⟩
              obtain ⟨B8, hx8, _⟩ := box_made hw8
              have hn8 := B8.node
              have s0 : ∀ q : Later w8, q.w.cell? ⟨b, 0, none⟩ = some (.slice (some ⟨g, 0, none⟩) n' c') := fun q => (HBb.out.to ((hx7.step hx8).step q.ext)).cell 0
              have H8 := Lib.hid hw8
              have HX8 := Lib.hid (hx7.step hx8)
              clear hxk had B8 hw8 hx8 k0 k1 b0 b1
              by_cases hkp : k = p
              · subst hkp
                have e4 : ((k : Int) != (k : Int)) = false := by simp
                go_wp2_with (first
                  | (refine wpList_load_nd (by rfl) _ (by rfl) _ (by rfl) xk hnk ?_)
                  | (refine wpList_store_nd (W := w7) (by rfl) _ _ (by rfl) (by rfl) xk (by rfl) _ (by rfl) (by rfl) ?_; rw [← H8.out]))
                try simp only [Act.put]
                refine wp_region_later w8 (Ext.refl _) (by kernel_rfl) (by kernel_rfl) ?_
                repeat (go_big_quiet_step (fail))
                refine wpQuiet_nil ?_
                rintro _ ⟨q, rfl⟩
                go_wp2_with fail
                go_roundw
                case rel => exact ⟨HX8.out.step q.ext, k + 1, by omega, by go_num⟩
                case measure => simp [intOf]; omega
              · have hbk := Lib.hid (show (ns'.set p y)[k]? = some xk by rw [List.getElem?_set_ne (Ne.symm hkp)]; exact HXK.out)
                obtain ⟨ad2, had2, hnb⟩ := NdAt.of (HR6n.out.to HX8.out) hbk.out
                obtain rfl : (⟨g, 0, none⟩ : Addr) = ad2 := Option.some.inj had2
                rw [addr_zero] at hnb
                have heq : ∀ W, (Op.equalIn 10000 30 (.agg xk.arr) (.agg xk.arr)).run Try.prog W = .ok true W := fun W => by rw [nd_eq]; simp
                have e4 : ((k : Int) == (p : Int)) = false := by simp; omega
                have e5 : ((k : Int) != (p : Int)) = true := by simp; omega
                have e6 : (k == p) = false := by simp [hkp]
                have e7 : (k != p) = true := by simp [hkp]
                clear had2
                go_wp2_with (first
                  | (refine wpList_load_nd (by rfl) _ (by rfl) _ (by rfl) xk hnk ?_)
                  | (refine wpList_store_nd (W := w7) (by rfl) _ _ (by rfl) (by rfl) xk (by rfl) _ (by rfl) (by rfl) ?_; rw [← H8.out]))
                try simp only [Act.put]
                refine wp_region_later w8 (Ext.refl _) (by kernel_rfl) (by kernel_rfl) ?_
                repeat (first
                  | (refine wpQuiet_load_nd (by rfl) _ (by rfl) _ (by rfl) xk hnb ?_; simp only [Act.put, List.setIfInBounds_toArray, List.set_cons_zero, List.set_cons_succ])
                  | (refine wpQuiet_load_nd (by rfl) _ (by rfl) _ (by rfl) xk hn8 ?_; simp only [Act.put, List.setIfInBounds_toArray, List.set_cons_zero, List.set_cons_succ])
                  | go_big_quiet_step (fail))
                refine wpQuiet_nil ?_
                rintro _ ⟨q, rfl⟩
                go_wp2_with fail
                go_roundw
                case rel => exact ⟨HX8.out.step q.ext, k + 1, by omega, by go_num⟩
                case measure => simp [intOf]; omega
            · have h9 := Lib.hid (fun W (hW : Ext w7 W) => (And.intro ((HBa.out.to (E6.out.1.step hx7)).to hW) (And.intro ((HBb.out.to hx7).to hW) ((HR6.out.to hx7).to hW))))
              have HAl := Lib.hid (alive4 w7)
              have hx7' := Lib.hid hx7
              clear hx7
              go_wp2_with fail
              refine HAl.out.mono ?_; rintro e w9 ⟨rfl, hx9⟩
              obtain ⟨Ba9, Bb9, A9⟩ := h9.out w9 hx9
              have k0 : w9.cell? ⟨w.heap.size, 0, none⟩ = some (.slice (some ad) n' c) := Ba9.cell 0
              have k1 : w9.cell? ⟨w.heap.size, 1, none⟩ = some (.slice B m' d) := Ba9.cell 1
              have b0 : w9.cell? ⟨b, 0, none⟩ = some (.slice (some ⟨g, 0, none⟩) n' c') := Bb9.cell 0
              have b1 : w9.cell? ⟨b, 1, none⟩ = some (.slice B' (m' + 1 : Nat) d') := Bb9.cell 1
              obtain ⟨ad2, had2, hnb⟩ := A9.nodeAt (show (ns'.set p y)[p]? = some y by rw [List.getElem?_set_self (by have := HL.out; omega)])
              obtain rfl : (⟨g, 0, none⟩ : Addr) = ad2 := Option.some.inj had2
              rw [addr_zero] at hnb
              have c0 : w9.cell? ⟨g, p * 16, none⟩ = some (.int .i64 0) := by rw [← hyk]; exact hnb.kc
              obtain ⟨bd, rfl, c1⟩ := A9.freeAt (show (fs' ++ [(p : Int)])[m']? = some (p : Int) by
                rw [List.getElem?_append_right (by rw [HLF.out]; omega), HLF.out]; simp)
              have hX := Lib.hid (hx7'.out.step hx9)
              clear hnb had2 Ba9 Bb9 A9 hx9
              go_wp2_with fail
              go_ret
              exact ⟨rfl, HE4.out.step (hx5.step ((hxq.step E6.out.2).step hX.out))⟩

theorem ArenaMakes_walk (w : World) (A B : Option Addr) (n m c d : Nat) (ns : List Nd) (fs : List Int) (h : Ar w A n B m ns fs) (hn : n ≤ c) (hm : m ≤ d) (hc : c ≤ maxLen) (hd : d ≤ maxLen) (_ : ∀ z ∈ fs, (Lit.int .i64 z).wf = true) (x : Nd) (hx : x.Ok) (z : Int) (_ : (Lit.int .i64 z).wf = true) :
    Calls Try.prog 8 #[.agg #[.slice A n c, .slice B m d], .agg x.arr, .int .i64 z] w fun e w' => e = .returned (.bool true) ∧ Ext w w' :=
  makes_walk A B n m c d ns fs x z w h hn hm hc hd hx

end Go.Proofs.Ytmfpgbiicncpcaa
