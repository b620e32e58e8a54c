/-
  The walk of MachineParts: picks in two parts come to what they come to at once.
-/
import Derived.Test.YteiabmbfjfaboaaPRow
set_option linter.unusedVariables false
set_option linter.unusedSimpArgs false
namespace Go.Proofs.Yteiabmbfjfaboaa
open Go.RowKit
attribute [local go_sem ↓] Go.wp_at_zero Go.wp_at_succ

theorem take_ints {w : World} {PA : Option Addr} {m k : Nat} {xs : List Int} (h : Rd w 1 PA m (Ks .i64 xs)) (hk : k ≤ m) : Rd w 1 PA k (Ks .i64 (xs.take k)) := by
  have := h.take hk
  rw [Nat.mul_one] at this
  simpa [Ks] using this
/-- (x mod m + m) mod m, as the machine has it. -/
theorem mod_six (x : Int) : ∃ r : Nat, (wrap64 (x.tmod 6 + 6)).tmod 6 = (r : Int) ∧ r < 6 := by
  have e0 : 0 ≤ x % 6 := Int.emod_nonneg _ (by omega)
  have e1 : x % 6 < 6 := Int.emod_lt_of_pos _ (by omega)
  refine ⟨(x % 6).toNat, ?_, by omega⟩
  rw [Int.toNat_of_nonneg e0]
  have h1 : x.tmod 6 = x % 6 ∨ x.tmod 6 = x % 6 - 6 := by
    rw [Int.tmod_eq_emod]
    split
    · left; omega
    · right; simp
  have w64 (z : Int) (h1 : 0 ≤ z) (h2 : z < 100) : wrap64 z = z := by
    unfold wrap64
    omega
  rcases h1 with h | h
  · rw [h, w64 _ (by omega) (by omega), Int.tmod_eq_emod_of_nonneg (by omega)]
    omega
  · rw [h, w64 _ (by omega) (by omega), Int.tmod_eq_emod_of_nonneg (by omega)]
    omega

theorem mod_len (x : Int) (m : Nat) (hm : m ≤ 200) : ∃ a : Nat, (wrap64 (wrap64 (x.tmod ((m : Int) + 1) + (m : Int)) + 1)).tmod ((m : Int) + 1) = (a : Int) ∧ a ≤ m := by
  have e0 : 0 ≤ x % ((m : Int) + 1) := Int.emod_nonneg _ (by omega)
  have e1 : x % ((m : Int) + 1) < (m : Int) + 1 := Int.emod_lt_of_pos _ (by omega)
  have w64 (z : Int) (h1 : -1000 ≤ z) (h2 : z < 1000) : wrap64 z = z := by
    unfold wrap64
    omega
  have h1 : -((m : Int) + 1) < x.tmod ((m : Int) + 1) ∧ x.tmod ((m : Int) + 1) < (m : Int) + 1 :=
    ⟨Int.lt_tmod_of_pos x (by omega), Int.tmod_lt_of_pos x (by omega)⟩
  rw [w64 (x.tmod ((m : Int) + 1) + (m : Int)) (by omega) (by omega), w64 _ (by omega) (by omega), Int.tmod_eq_emod_of_nonneg (by omega)]
  have f0 : 0 ≤ (x.tmod ((m : Int) + 1) + (m : Int) + 1) % ((m : Int) + 1) := Int.emod_nonneg _ (by omega)
  have f1 : (x.tmod ((m : Int) + 1) + (m : Int) + 1) % ((m : Int) + 1) < (m : Int) + 1 := Int.emod_lt_of_pos _ (by omega)
  exact ⟨((x.tmod ((m : Int) + 1) + (m : Int) + 1) % ((m : Int) + 1)).toNat, by omega, by omega⟩

set_option maxRecDepth 100000 in
set_option maxHeartbeats 4000000 in
theorem parts_walk (w : World) (A : Option Addr) (n c : Nat) (many : List Int) (h : Rd w 1 A n (Ks .i64 many)) (PA : Option Addr) (m0 k : Nat) (picks0 : List Int) (hp0 : Rd w 1 PA m0 (Ks .i64 picks0)) (hmk : m0 ≤ k) (hn0 : n ≤ maxLen) (at_ : Int) :
    Calls Try.prog 9 #[.slice A n c, .slice PA m0 k, .int .i64 at_] w fun e w' => e = .returned (.bool true) ∧ Ext w w' := by
  obtain ⟨i0, hi0, hz0, hz1, hz2⟩ := info_parts proc_info
  have hnl : many.length = n := by have := h.1; simpa [Ks] using this
  have hn : n ≤ 9223372036854775807 := by have := hn0; simp only [maxLen] at this; omega
  clear hn0
  go_enter Try.func9, Try.ntmps9
  go_wp2_with fail
  go_loopw [7, 22] (fun v j wr => Ext w wr ∧ ∃ (t : Nat) (vs : List Pv), t ≤ n ∧ j = .int .i64 t ∧ PRow wr w.heap.size v vs ∧ vs.length ≤ 6 ∧ (∀ u ∈ vs, u.p.May) ∧ vs.length = min t 6) (fun _ j _ => n - (intOf j).toNat)
  case atStart => exact ⟨Ext.refl w, 0, [], Nat.zero_le _, rfl, PRow.nil _ _, by simp, by simp, rfl⟩
  case round =>
    obtain ⟨hx, t, vs, htn, rfl, hrow, h6, hmay, hcnt⟩ := hrel
    obtain ⟨vA, vc, rfl⟩ := own_slice hrow.1
    by_cases hlt : t < n
    · obtain ⟨ad, rfl⟩ := h.some_ (by omega) (by omega)
      obtain ⟨x, hxt⟩ : ∃ x, many[t]? = some x := ⟨_, List.getElem?_eq_getElem (by omega)⟩
      have cx := hx.cellOf (h.cells t (.int .i64 x) (by simp [Ks, hxt]))
      obtain ⟨r, hr, hr6⟩ := mod_six x
      clear hxt
      by_cases ht6 : t < 6
      · obtain ⟨a, ha, ha2⟩ : ∃ a : Nat, (t : Int).tmod 2 = (a : Int) ∧ a < 2 := ⟨t % 2, by rw [Int.tmod_eq_emod_of_nonneg (by omega)]; omega, by omega⟩
        have hv5 : vs.length < 6 := by omega
        have HC := Lib.hid hcnt
        clear hcnt
        go_wp2_with fail
        refine (adds_is (a : Int) r (by omega) _).mono ?_; rintro e w1 ⟨B1, c1, rfl, hp1, hx1, hf1⟩
        have hr1 := Rd.lit w1 #[.slice B1 ((addsP (a : Int) r)).prog.length c1, .int .i64 ((addsP (a : Int) r)).at_, .int .u64 (((addsP (a : Int) r)).rs 0), .int .u64 (((addsP (a : Int) r)).rs 1), .int .u64 (((addsP (a : Int) r)).rs 2), .int .u64 (((addsP (a : Int) r)).rs 3), .bool ((addsP (a : Int) r)).done, .int .i64 ((addsP (a : Int) r)).took] 27 1 (size := 8) rfl
        have ho := (own_ext hrow.1 hx1).alloc (.cells #[.slice B1 ((addsP (a : Int) r)).prog.length c1, .int .i64 ((addsP (a : Int) r)).at_, .int .u64 (((addsP (a : Int) r)).rs 0), .int .u64 (((addsP (a : Int) r)).rs 1), .int .u64 (((addsP (a : Int) r)).rs 2), .int .u64 (((addsP (a : Int) r)).rs 3), .bool ((addsP (a : Int) r)).done, .int .i64 ((addsP (a : Int) r)).took] 27)
        go_wp2_with (first
          | (at_builtin
             refine wpList_append_rd _ rfl (.tmp 29) (.tmp 37) _ rfl w.heap.size 27 i0 _ 8 80 Try.underlying34 hi0 hz0 hz1 hz2 rfl (by omega) (.slice vA vs.length vc) vs.length _ rfl ho _ 1 1 _ rfl hr1 (Pv.cells_one ⟨B1, c1, addsP (a : Int) r⟩) (by simp only [maxLen]; omega) (by omega) (by have := hx.size; have := hx1.size; simp; omega) ?_
             intro v1 w2 hown2 hg2 hat2))
        go_roundw
        case rel =>
          refine ⟨own_back ((hx.step hx1).new _) (by have := hx.size; have := hx1.size; simp; omega) hg2 (fun q hq => (ho.lt q hq).1), t + 1, vs ++ [⟨B1, c1, addsP (a : Int) r⟩], by omega, by go_num, ?_, by simp; omega, ?_, ?_⟩
          · exact hrow.push hx1 ⟨B1, c1, addsP (a : Int) r⟩ (by show 0 < (addsP _ _).prog.length; rw [addsP_length]; omega) hp1 hf1 hown2 hg2 hat2
          · intro u hu
            rcases List.mem_append.1 hu with h' | h'
            · exact hmay u h'
            · rw [List.mem_singleton.1 h']
              exact addsP_may _ r (by omega) (by omega) (by omega)
          · have := HC.out; simp; omega
        case measure => simp [intOf]; omega
      · go_wp2_with fail
        go_roundw
        case rel => exact ⟨hx, t + 1, vs, by omega, by go_num, hrow, h6, hmay, by omega⟩
        case measure => simp [intOf]; omega
    · clear hcnt h
      obtain ⟨m, hm⟩ : ∃ m : Nat, m = min m0 200 := ⟨_, rfl⟩
      have HM := Lib.hid hm
      have hm200 : m ≤ 200 := by omega
      have hmk' : m ≤ k := by omega
      have hp := take_ints hp0 (k := m) (by omega)
      have hmin : min m0 200 = m := hm.symm
      clear hm
      go_upto_region 8 with fail
      go_cut [1] (fun s wx => s = .slice PA m k ∧ wr = wx)
      case first =>
        by_cases hc : m0 ≤ 200
        · obtain rfl : m0 = m := by have := HM.out; omega
          clear hmin
          go_wp2_with fail
          all_goals (go_meet; case rel => exact ⟨rfl, rfl⟩)
        · obtain rfl : m = 200 := by have := HM.out; omega
          clear hmin
          go_wp2_with fail
          all_goals (go_meet; case rel => exact ⟨rfl, rfl⟩)
      case rest =>
        obtain ⟨rfl, rfl⟩ := hcut
        go_upto_region 9 with fail
        go_cut [2] (fun s wx => (∃ a : Nat, a ≤ m ∧ s = .int .i64 a) ∧ wr = wx)
        case first =>
          obtain ⟨a, ha, ham⟩ := mod_len at_ m hm200
          have hz : ((m : Int) + 1 == 0) = false := by simp; omega
          go_wp2_with fail
          go_meet
          case rel => exact ⟨⟨a, ham, rfl⟩, rfl⟩
        case rest =>
          obtain ⟨⟨a, ham, rfl⟩, rfl⟩ := hcut
          have hpa := take_ints hp0 (k := a) (by omega)
          clear hp0
          have hmk2 := make64
          obtain ⟨hv, hvn⟩ := hrow.row
          have HS := Lib.hid (fun (W : World) (hW : Ext wr W) (ad : Addr) (hr : Rd W 1 (some ad) 64 (Us (List.replicate 64 0))) (q : Nat) (hq : q ≤ m) (PB : Option Addr) (kB : Nat) (ys : List Int) (hys : Rd W 1 PB q (Ks .i64 ys)) =>
            run_by ad 64 (List.replicate 64 0) vA vs.length vc vs PB q kB ys W hr (hv.to hW) rfl (by omega) hmay hys (by omega) (List.replicate 64 0, vs.map (·.p)) rfl)
          obtain ⟨S, hS⟩ : ∃ S : List Int × List Pc, S = (List.replicate 64 0, vs.map (·.p)) := ⟨_, rfl⟩
          rw [← hS] at HS
          have hSl : S.1.length = 64 := by rw [hS]; simp
          have hSm : ∀ p ∈ S.2, p.May := by
            rw [hS]
            intro p hp'
            obtain ⟨u, hu, rfl⟩ := List.mem_map.1 hp'
            exact hmay u hu
          have hSn : S.2.length = vs.length := by rw [hS]; simp
          clear hS hmay
          go_upto_region 10 with fail
          go_cut [10, 11, 12] (fun s1 s2 s3 wx => Ext wr wx ∧ ∃ A1 c1 B1 d1 vs1, s1 = .slice A1 64 c1 ∧ s2 = .slice B1 vs.length d1 ∧ s3 = .int .i64 0 ∧ Rd wx 1 A1 64 (Us (runs S (picks0.take m)).1) ∧ Row wx B1 vs1 ∧ Hid (vs1.map (·.p) = (runs S (picks0.take m)).2))
          case first =>
            go_wp2_with fail
            refine (HS.out _ ((Ext.refl _).new _) _ (Rd.zeros rfl) m (Nat.le_refl _) PA k _ ((hp.to hx).to ((Ext.refl _).new _))).mono ?_; rintro e w1 ⟨A1, c1, B1, d1, vs1, rfl, hr1, hv1, hmap1, hx1, _, _⟩
            go_wp2_with fail
            go_meet
            case rel => exact ⟨((Ext.refl _).new _).step hx1, _, _, _, _, vs1, rfl, rfl, rfl, hr1, hv1, hmap1⟩
          case rest =>
            obtain ⟨E1, A1, c1, B1, d1, vs1, rfl, rfl, rfl, hr1, hv1, hmap1⟩ := hcut
            rename World => wq
            go_upto_region 11 with fail
            go_cut [13, 14, 15] (fun s1 s2 s3 wx => Ext wq wx ∧ ∃ ad2 c2 B2 d2 vs2, s1 = .slice (some ad2) 64 c2 ∧ s2 = .slice B2 vs.length d2 ∧ s3 = .int .i64 0 ∧ Rd wx 1 (some ad2) 64 (Us (runs S (picks0.take a)).1) ∧ Row wx B2 vs2 ∧ Hid (vs2.map (·.p) = (runs S (picks0.take a)).2))
            case first =>
              have h1 : (a : Int) ≤ (m : Int) := by omega
              have h2 : (0 : Int) ≤ (a : Int) := by omega
              have h3 : (a : Int) ≤ (k : Int) := by omega
              go_region_with (first
                | (go_at_call 19
                   refine (HS.out _ (Ext.step E1 ?_) _ ?_ a ham PA k (picks0.take a) ?_).mono ?_
                   · repeat (first | exact Ext.refl _ | with_reducible refine Ext.drew ?_ | with_reducible refine Ext.new ?_ _)
                   · repeat (first | exact Rd.zeros (by simp) | with_reducible refine Rd.drew ?_ | with_reducible refine Rd.new _ ?_)
                   · refine (hpa.to hx).to (Ext.step E1 ?_)
                     repeat (first | exact Ext.refl _ | with_reducible refine Ext.drew ?_ | with_reducible refine Ext.new ?_ _)
                   rintro e w1 ⟨A1, c1, B1, d1, vs1, rfl, hr1, hv1, hmap1, hx1, _, _⟩))
              all_goals go_wp2_with fail
              all_goals go_meet
              all_goals
                obtain ⟨ad1, rfl⟩ := hr1.some_ (by omega) (by omega)
                refine ⟨Ext.step ?_ hx1, _, _, _, _, vs1, rfl, rfl, rfl, hr1, hv1, hmap1⟩
                repeat (first | exact Ext.refl _ | with_reducible refine Ext.drew ?_ | with_reducible refine Ext.new ?_ _)
            case rest =>
              obtain ⟨E2, ad2, c2, B2, d2, vs2, rfl, rfl, rfl, hr2, hv2, hmap2⟩ := hcut
              rename World => wt
              have HV2 : Hid (vs2.length = vs.length) := by
                show _ = _
                have := congrArg List.length hmap2.out
                rw [runs_procs, hSn] at this
                simpa using this
              have hS2 : (runs S (picks0.take m)) = runs (runs S (picks0.take a)) ((picks0.take m).drop a) := by
                rw [← runs_append]
                congr 1
                rw [show picks0.take a = (picks0.take m).take a by rw [List.take_take, Nat.min_eq_left ham], List.take_append_drop]
              have HS2 := Lib.hid hS2
              clear hS2
              have hr1' := hr1.to E2
              have hv1' := hv1.to E2
              have hpd : ∀ q, PA = some q → Rd wt 1 (some (q.add a)) (m - a) (Ks .i64 ((picks0.take m).drop a)) := fun q hq => by
                have hp3 := ((hp.to hx).to E1).to E2
                rw [hq] at hp3
                have hpl := hp3.1
                simp only [Ks, List.length_map, Nat.mul_one] at hpl
                refine ⟨by simp [Ks]; simp at hpl; omega, fun j u hu => ⟨_, rfl, ?_⟩⟩
                rw [addr_add]
                refine hp3.cells (a + j) u ?_
                simp only [Ks, List.getElem?_map, List.getElem?_drop] at hu ⊢
                exact hu
              have hpd2 : Rd wt 1 (PA.map (fun x => x.add a)) (m - a) (Ks .i64 ((picks0.take m).drop a)) := by
                cases hPA : PA with
                | some q => exact hpd q hPA
                | none =>
                  have h0 : m = 0 := by
                    rcases Nat.eq_zero_or_pos m with h' | h'
                    · exact h'
                    · obtain ⟨q, hq⟩ := hp.some_ h' (by omega)
                      rw [hPA] at hq
                      cases hq
                  subst h0
                  simp [Ks]
                  exact Rd.nil _ _ _
              clear hpd
              have HR3 := Lib.hid (fun (q : Nat) (hq : q ≤ m) (PB : Option Addr) (kB : Nat) (ys : List Int) (hys : Rd wt 1 PB q (Ks .i64 ys)) =>
                run_by ad2 c2 (runs S (picks0.take a)).1 B2 vs.length d2 vs2 PB q kB ys wt hr2 hv2 HV2.out (by omega) (fun v hv => by
                  have h1 : v.p ∈ vs2.map (·.p) := List.mem_map.2 ⟨v, hv, rfl⟩
                  rw [hmap2.out] at h1
                  exact runs_may _ S hSm _ h1) hys (by omega) (runs S (picks0.take a)) (by rw [hmap2.out]))
              go_upto_region 12 with fail
              go_cut [16, 17, 18] (fun s1 s2 s3 wx => Ext wt wx ∧ ∃ A3 c3 B3 d3 vs3, s1 = .slice A3 64 c3 ∧ s2 = .slice B3 vs.length d3 ∧ s3 = .int .i64 0 ∧ Rd wx 1 A3 64 (Us (runs S (picks0.take m)).1) ∧ Row wx B3 vs3 ∧ Hid (vs3.map (·.p) = (runs S (picks0.take m)).2))
              case first =>
                have h1 : (a : Int) ≤ (m : Int) := by omega
                have h2 : (0 : Int) ≤ (a : Int) := by omega
                have h3 : (m : Int) ≤ (k : Int) := by omega
                go_wp2_with fail
                · have hak : k = a := by omega
                  subst hak
                  refine (HR3.out (m - k) (by omega) PA 0 [] ?_).mono ?_
                  · have e : m - k = 0 := by omega
                    rw [e]
                    exact Rd.nil _ _ _
                  have hnil : (picks0.take m).drop k = [] := List.drop_eq_nil_of_le (by simp; omega)
                  rw [hnil] at HS2
                  rintro e w3 ⟨A3, c3, B3, d3, vs3, rfl, hr3, hv3, hmap3, hx3, _, _⟩
                  go_wp2_with fail
                  go_meet
                  case rel => exact ⟨hx3, _, _, _, _, vs3, rfl, rfl, rfl, by rw [HS2.out]; exact hr3, hv3, by rw [HS2.out]; exact hmap3⟩
                · refine (HR3.out (m - a) (by omega) _ _ _ hpd2).mono ?_
                  rintro e w3 ⟨A3, c3, B3, d3, vs3, rfl, hr3, hv3, hmap3, hx3, _, _⟩
                  go_wp2_with fail
                  go_meet
                  case rel => exact ⟨hx3, _, _, _, _, vs3, rfl, rfl, rfl, by rw [HS2.out]; exact hr3, hv3, by rw [HS2.out]; exact hmap3⟩
              case rest =>
                obtain ⟨E3, A3, c3, B3, d3, vs3, rfl, rfl, rfl, hr3, hv3, hmap3⟩ := hcut
                rename World => wu
                have HV3 : Hid (vs3.length = vs.length) := by
                  show _ = _
                  have := congrArg List.length hmap3.out
                  rw [runs_procs, hSn] at this
                  simpa using this
                replace hr1' := hr1'.to E3
                replace hv1' := hv1'.to E3
                have E5 := (E1.step E2).step E3
                go_wp2_with fail
                refine (same_yes A3 A1 64 c3 c1 _ _ hr3 (hr1'.to (Ext.refl _)) (by omega)).mono ?_; rintro e w6 ⟨rfl, hx6⟩
                replace hv1' := hv1'.to hx6; replace hv3 := hv3.to hx6
                replace E5 := E5.step hx6
                clear hx6
                go_wp2_with fail
                refine (alive_yes _).mono ?_; rintro e w7 ⟨rfl, hx7⟩
                replace hv1' := hv1'.to hx7; replace hv3 := hv3.to hx7
                replace E5 := hx.step (E5.step hx7)
                clear hx7 hr1 hv1 hr2 hv2 hr3 hr1' E1 E2 E3 HS HS2 hx hv hp hpa hpd2 HR3
                have H1 : Hid (vs1.length = vs.length) := by
                  show _ = _
                  have := congrArg List.length hmap1.out
                  rw [runs_procs, hSn] at this
                  simpa using this
                go_wp2_with fail
                go_loopw [115] (fun j wy => Ext w7 wy ∧ ∃ q : Nat, q ≤ vs.length ∧ j = .int .i64 q) (fun j _ => vs.length - (intOf j).toNat)
                case atStart => exact ⟨Ext.refl _, 0, Nat.zero_le _, rfl⟩
                case round =>
                  obtain ⟨hy, q, hq, rfl⟩ := hrel
                  by_cases hqv : q < vs.length
                  · obtain ⟨u1, hu1⟩ : ∃ u, vs1[q]? = some u := ⟨_, List.getElem?_eq_getElem (by rw [H1.out]; exact hqv)⟩
                    obtain ⟨u3, hu3⟩ : ∃ u, vs3[q]? = some u := ⟨_, List.getElem?_eq_getElem (by rw [HV3.out]; exact hqv)⟩
                    have hpp : u1.p = u3.p := by
                      have e1 : (vs1.map (·.p))[q]? = some u1.p := by rw [List.getElem?_map, hu1]; rfl
                      have e3 : (vs3.map (·.p))[q]? = some u3.p := by rw [List.getElem?_map, hu3]; rfl
                      rw [hmap1.out] at e1
                      rw [hmap3.out, e1] at e3
                      exact Option.some.inj e3
                    have hmay1 : u1.p.May := by
                      have h1 : u1.p ∈ vs1.map (·.p) := List.mem_map.2 ⟨u1, List.mem_of_getElem? hu1, rfl⟩
                      rw [hmap1.out] at h1
                      exact runs_may _ S hSm _ h1
                    have hpr1 := (hv1'.to hy).2 u1 (List.mem_of_getElem? hu1)
                    have hpr3 := (hv3.to hy).2 u3 (List.mem_of_getElem? hu3)
                    obtain ⟨d1', rfl, g0, g1, g2, g3, g4, g5, g6, g7⟩ := (hv1'.to hy).1.eight hu1
                    obtain ⟨d3', rfl, q0, q1, q2, q3, q4, q5, q6, q7⟩ := (hv3.to hy).1.eight hu3
                    obtain ⟨B, cB, pB⟩ := u3
                    dsimp only at hpp hpr3 q0 q1 q2 q3 q4 q5 q6 q7
                    subst hpp
                    have HL := Lib.hid (fun (W : World) (hW : Ext wr W) => like_yes u1.A B u1.c cB u1.p W (hpr1.to hW) (hpr3.to hW) (by have := hmay1.1; omega))
                    clear hu1 hu3
                    go_wp2_with fail
                    go_region_held3 (fun w' => w'.cell? (d1'.add (q * 8)) = some (.slice u1.A u1.p.prog.length u1.c) ∧ w'.cell? { block := (d1'.add (q * 8)).block, off := (d1'.add (q * 8)).off + 1 } = some (.int .i64 u1.p.at_) ∧ w'.cell? { block := (d1'.add (q * 8)).block, off := (d1'.add (q * 8)).off + 2 } = some (.int .u64 (u1.p.rs 0)) ∧ w'.cell? { block := (d1'.add (q * 8)).block, off := (d1'.add (q * 8)).off + 3 } = some (.int .u64 (u1.p.rs 1)) ∧ w'.cell? { block := (d1'.add (q * 8)).block, off := (d1'.add (q * 8)).off + 4 } = some (.int .u64 (u1.p.rs 2)) ∧ w'.cell? { block := (d1'.add (q * 8)).block, off := (d1'.add (q * 8)).off + 5 } = some (.int .u64 (u1.p.rs 3)) ∧ w'.cell? { block := (d1'.add (q * 8)).block, off := (d1'.add (q * 8)).off + 6 } = some (.bool u1.p.done) ∧ w'.cell? { block := (d1'.add (q * 8)).block, off := (d1'.add (q * 8)).off + 7 } = some (.int .i64 u1.p.took) ∧ w'.cell? (d3'.add (q * 8)) = some (.slice B u1.p.prog.length cB) ∧ w'.cell? { block := (d3'.add (q * 8)).block, off := (d3'.add (q * 8)).off + 1 } = some (.int .i64 u1.p.at_) ∧ w'.cell? { block := (d3'.add (q * 8)).block, off := (d3'.add (q * 8)).off + 2 } = some (.int .u64 (u1.p.rs 0)) ∧ w'.cell? { block := (d3'.add (q * 8)).block, off := (d3'.add (q * 8)).off + 3 } = some (.int .u64 (u1.p.rs 1)) ∧ w'.cell? { block := (d3'.add (q * 8)).block, off := (d3'.add (q * 8)).off + 4 } = some (.int .u64 (u1.p.rs 2)) ∧ w'.cell? { block := (d3'.add (q * 8)).block, off := (d3'.add (q * 8)).off + 5 } = some (.int .u64 (u1.p.rs 3)) ∧ w'.cell? { block := (d3'.add (q * 8)).block, off := (d3'.add (q * 8)).off + 6 } = some (.bool u1.p.done) ∧ w'.cell? { block := (d3'.add (q * 8)).block, off := (d3'.add (q * 8)).off + 7 } = some (.int .i64 u1.p.took)) (first | go_keep | ((repeat' apply And.intro) <;> (exact Ext.cellOf hx8 (by assumption))))
                      (first | (go_at_call 16; refine (HL.out _ (Ext.refl wr).drew).mono ?_; rintro e w8 ⟨rfl, hx8⟩))
                    all_goals go_wp2_with fail
                    all_goals go_roundw
                    all_goals first
                      | (case rel => exact ⟨hy.step hx8.undrew, q + 1, by omega, by go_num⟩)
                      | skip
                    all_goals (simp [intOf]; omega)
                  · go_wp2_with fail
                    go_ret
                    exact ⟨rfl, E5.step hy⟩

theorem MachineParts_walk (w : World) (A : Option Addr) (n c : Nat) (many : List Int) (h : Rd w 1 A n (Ks .i64 many)) (hn : n ≤ c) (hm : c ≤ maxLen) (_ : ∀ z ∈ many, (Lit.int .i64 z).wf = true)
    (PA : Option Addr) (m k : Nat) (picks : List Int) (hp : Rd w 1 PA m (Ks .i64 picks)) (hmk : m ≤ k) (_ : k ≤ maxLen) (_ : ∀ z ∈ picks, (Lit.int .i64 z).wf = true) (at_ : Int) (_ : (Lit.int .i64 at_).wf = true) :
    Calls Try.prog 9 #[.slice A n c, .slice PA m k, .int .i64 at_] w fun e w' => e = .returned (.bool true) ∧ Ext w w' :=
  parts_walk w A n c many h PA m k picks hp hmk (Nat.le_trans hn hm) at_

end Go.Proofs.Yteiabmbfjfaboaa
