/-
  The walk of MachineEnds: a process that ended does nothing more; one that is never picked stays as it was.
-/
import Derived.Test.YteiabmbfjfaboaaTally
import Derived.Test.YteiabmbfjfaboaaLawAdds
set_option linter.unusedVariables false
set_option linter.unusedSimpArgs false
namespace Go.Proofs.Yteiabmbfjfaboaa
open Go.RowKit
attribute [local go_sem ↓] Go.wp_at_zero Go.wp_at_succ

theorem pick_still (s : List Int × List Pc) (x : Int) (i : Nat) (h : x ≠ (i : Int)) : (pick s x).2[i]? = s.2[i]? := by
  unfold pick
  split
  · split
    · dsimp only
      rw [List.getElem?_set_ne (by omega)]
    · rfl
  · rfl
theorem runs_still (i : Nat) (l : List Int) : ∀ (s : List Int × List Pc), (∀ x ∈ l, x ≠ (i : Int)) → (runs s l).2[i]? = s.2[i]? := by
  induction l with
  | nil => intro s _; rfl
  | cons x l ih =>
    intro s h
    show (runs (pick s x) l).2[i]? = _
    rw [ih _ (fun y hy => h y (by simp [hy])), pick_still _ _ _ (h x (by simp))]
theorem int_info : (Try.prog.info? 3).map (fun i => (i.zero, i.size, i.bytes)) = some (some (.int .i64 0), 1, 8) := by kernel_rfl
theorem Ks_one (k : IntKind) (zs : List Int) : ∀ u ∈ Ks k zs, u.oneCell' = true := ints_oneCell k zs
/-- The picks of the first 60 that are not 1. -/
def some60 (picks : List Int) (t : Nat) : List Int := (picks.take (min t 60)).filter fun x => x != 1
theorem some60_le (picks : List Int) (t : Nat) : (some60 picks t).length ≤ 60 := by
  unfold some60
  refine Nat.le_trans (List.length_filter_le _ _) ?_
  simp
  omega
theorem some60_step (picks : List Int) (t : Nat) (x : Int) (h : picks[t]? = some x) (ht : t < 60) : some60 picks (t + 1) = some60 picks t ++ if x = 1 then [] else [x] := by
  unfold some60
  rw [show min (t + 1) 60 = t + 1 by omega, show min t 60 = t by omega, take_get picks t x h, List.filter_append]
  by_cases e : x = 1 <;> simp [e]
theorem some60_stay (picks : List Int) (t : Nat) (ht : 60 ≤ t) : some60 picks (t + 1) = some60 picks t := by
  unfold some60
  rw [show min (t + 1) 60 = min t 60 by omega]

set_option maxRecDepth 100000 in
set_option maxHeartbeats 4000000 in
theorem ends_walk (w : World) (x0 : Int) (PA : Option Addr) (m k : Nat) (picks : List Int) (hp : Rd w 1 PA m (Ks .i64 picks)) (hm0 : m ≤ maxLen) :
    Calls Try.prog 7 #[.int .i64 x0, .slice PA m k] w fun e w' => e = .returned (.bool true) ∧ Ext w w' := by
  obtain ⟨i0, hi0, hz0, hz1, hz2⟩ := info_parts int_info
  have hpl : picks.length = m := by have := hp.1; simpa [Ks] using this
  have hm : m ≤ 9223372036854775807 := by have := hm0; simp only [maxLen] at this; omega
  clear hm0
  have hr := sixth_is x0
  have hr6 := sixth_lt x0
  generalize sixth x0 = N at hr hr6
  go_enter Try.func7, Try.ntmps7
  go_wp2_with fail
  refine (adds_is 0 N (by omega) _).mono ?_; rintro e w1 ⟨B1, c1, rfl, hp1, hx1, hf1⟩
  go_wp2_with fail
  refine (adds_is 1 N (by omega) _).mono ?_; rintro e w2 ⟨B2, c2, rfl, hp2, hx2, hf2⟩
  have hrow : ∀ o, Row ((w2.alloc (.cells #[.slice B1 (addsP 0 N).prog.length c1, .int .i64 (addsP 0 N).at_, .int .u64 ((addsP 0 N).rs 0), .int .u64 ((addsP 0 N).rs 1), .int .u64 ((addsP 0 N).rs 2), .int .u64 ((addsP 0 N).rs 3), .bool (addsP 0 N).done, .int .i64 (addsP 0 N).took, .slice B2 (addsP 1 N).prog.length c2, .int .i64 (addsP 1 N).at_, .int .u64 ((addsP 1 N).rs 0), .int .u64 ((addsP 1 N).rs 1), .int .u64 ((addsP 1 N).rs 2), .int .u64 ((addsP 1 N).rs 3), .bool (addsP 1 N).done, .int .i64 (addsP 1 N).took] 27))) (some ⟨w2.heap.size, 0, none⟩) [⟨B1, c1, addsP 0 N⟩, ⟨B2, c2, addsP 1 N⟩] := fun (o : Unit) => by
    refine ⟨Rd.litAt rfl rfl rfl, fun v hv => ?_⟩
    simp at hv
    rcases hv with rfl | rfl
    · exact (hp1.to hx2).to ((Ext.refl _).new _)
    · exact hp2.to ((Ext.refl _).new _)
  replace hrow := hrow ()
  have E2 := ((Ext.refl w).step hx1).step hx2
  go_wp2_with fail
  have hE2 := hrow
  go_loopw [6, 7, 24] (fun mn sv j wr => Ext (w2.alloc (.cells #[.slice B1 (addsP 0 N).prog.length c1, .int .i64 (addsP 0 N).at_, .int .u64 ((addsP 0 N).rs 0), .int .u64 ((addsP 0 N).rs 1), .int .u64 ((addsP 0 N).rs 2), .int .u64 ((addsP 0 N).rs 3), .bool (addsP 0 N).done, .int .i64 (addsP 0 N).took, .slice B2 (addsP 1 N).prog.length c2, .int .i64 (addsP 1 N).at_, .int .u64 ((addsP 1 N).rs 0), .int .u64 ((addsP 1 N).rs 1), .int .u64 ((addsP 1 N).rs 2), .int .u64 ((addsP 1 N).rs 3), .bool (addsP 1 N).done, .int .i64 (addsP 1 N).took] 27)) wr ∧
    ∃ (t : Nat) (L : List Int), t ≤ m ∧ j = .int .i64 t ∧ mn = .int .i64 (L.count 0 : Nat) ∧ Hid (L = some60 picks t) ∧ L.length ≤ 60 ∧ wr.ownsRow (w2.heap.size + 1) 3 1 sv L.length (Ks .i64 L)) (fun _ _ j _ => m - (intOf j).toNat)
  case atStart => exact ⟨Ext.refl _, 0, [], Nat.zero_le _, rfl, rfl, rfl, by simp, ⟨rfl, .inl ⟨rfl, rfl⟩⟩⟩
  case round =>
    obtain ⟨hx, t, L, htm, rfl, rfl, HL, h60, hown⟩ := hrel
    rename World => wr
    obtain ⟨vA, vc, rfl⟩ := own_slice hown
    have hcl : L.count 0 ≤ 60 := Nat.le_trans (List.count_le_length) h60
    by_cases hlt : t < m
    · obtain ⟨x, hxt⟩ : ∃ x, picks[t]? = some x := ⟨_, List.getElem?_eq_getElem (by omega)⟩
      obtain ⟨pa, rfl⟩ := hp.some_ (by omega) (by omega)
      have cx := hx.cellOf (((Ext.refl _).new _).cellOf (E2.cellOf (hp.cells t (.int .i64 x) (by simp [Ks, hxt]))))
      have HX := Lib.hid hxt
      clear hxt
      by_cases ht60 : t < 60
      · by_cases e1 : x = 1
        · subst e1
          go_wp2_with fail
          go_roundw
          case rel => exact ⟨hx, t + 1, L, by omega, by go_num, rfl, by show _ = _; rw [some60_step picks t 1 HX.out ht60, HL.out]; simp, h60, hown⟩
          case measure => simp [intOf]; omega
        · have e1' : (x != 1) = true := by simpa using e1
          have hr1 := Rd.lit wr #[.int .i64 x] 3 1 (size := 1) rfl
          have ho := hown.alloc (.cells #[.int .i64 x] 3)
          have hll : L.length < 60 := by
            have h1 := HL.out
            have h2 : L.length ≤ t := by
              rw [h1]
              unfold some60
              refine Nat.le_trans (List.length_filter_le _ _) ?_
              simp
              omega
            omega
          have HS : Hid (some60 picks (t + 1) = L ++ [x]) := by
            show _ = _
            rw [some60_step picks t x HX.out ht60, if_neg e1, HL.out]
          have hz : w2.heap.size + 1 ≤ wr.heap.size := by have := hx.size; simp at this; omega
          by_cases e0 : x = 0
          · subst e0
            go_wp2_with (first
              | (at_builtin
                 refine wpList_append_rd _ rfl (.tmp 35) (.tmp 37) _ rfl (w2.heap.size + 1) 3 i0 _ 1 8 Try.underlying43 hi0 hz0 hz1 hz2 rfl (by omega) (.slice vA L.length vc) L.length _ rfl ho _ 1 1 _ rfl hr1 (Ks_one .i64 [0]) (by simp only [maxLen]; omega) (by omega) (by simp; omega) ?_
                 intro v1 w3 hown3 hg3 hat3))
            go_roundw
            case rel =>
              refine ⟨own_back (hx.new _) (by simp; omega) hg3 (fun q hq => by have := (ho.lt q hq).1; simp; omega), t + 1, L ++ [0], by omega, by go_num, ?_, HS.out.symm, by simp; omega, ?_⟩
              · rw [List.count_append, List.count_singleton]
                simp
              · rw [List.length_append, show Ks .i64 (L ++ [0]) = Ks .i64 L ++ Ks .i64 [0] by simp [Ks]]
                exact hown3
            case measure => simp [intOf]; omega
          · have e0' : (x == 0) = false := by simpa using e0
            go_wp2_with (first
              | (at_builtin
                 refine wpList_append_rd _ rfl (.tmp 35) (.tmp 37) _ rfl (w2.heap.size + 1) 3 i0 _ 1 8 Try.underlying43 hi0 hz0 hz1 hz2 rfl (by omega) (.slice vA L.length vc) L.length _ rfl ho _ 1 1 _ rfl hr1 (Ks_one .i64 [x]) (by simp only [maxLen]; omega) (by omega) (by simp; omega) ?_
                 intro v1 w3 hown3 hg3 hat3))
            go_roundw
            case rel =>
              refine ⟨own_back (hx.new _) (by simp; omega) hg3 (fun q hq => by have := (ho.lt q hq).1; simp; omega), t + 1, L ++ [x], by omega, by go_num, ?_, HS.out.symm, by simp; omega, ?_⟩
              · rw [List.count_append, List.count_singleton]
                simp [e0]
              · rw [List.length_append, show Ks .i64 (L ++ [x]) = Ks .i64 L ++ Ks .i64 [x] by simp [Ks]]
                exact hown3
            case measure => simp [intOf]; omega
      · go_wp2_with fail
        go_roundw
        case rel => exact ⟨hx, t + 1, L, by omega, by go_num, rfl, by show _ = _; rw [some60_stay picks t (by omega)]; exact HL.out, h60, hown⟩
        case measure => simp [intOf]; omega
    · have hLm : L = some60 picks m := by
        have e : t = m := by omega
        rw [← e]
        exact HL.out
      have hno1 : ∀ y ∈ L, y ≠ (1 : Int) := fun y hy e => by
        rw [hLm, some60] at hy
        have := (List.mem_filter.1 hy).2
        rw [e] at this
        simp at this
      clear hLm HL
      have hmk2 := make64
      have hLr : Rd wr 1 vA L.length (Ks .i64 L) := Rd.own hown
      have hrw := hrow.to hx
      have hT := tally_all (specs := [((0 : Int), N), ((1 : Int), N)]) ⟨by simp, by simp; omega⟩ L
      have hstill := runs_still 1 L (List.replicate 64 0, [((0 : Int), N), ((1 : Int), N)].map fun x => addsP x.1 x.2) hno1
      have HS := Lib.hid (fun (W : World) (hW : Ext wr W) (ad : Addr) (hr : Rd W 1 (some ad) 64 (Us (List.replicate 64 0))) =>
        run_by ad 64 (List.replicate 64 0) (some ⟨w2.heap.size, 0, none⟩) 2 2 [⟨B1, c1, addsP 0 N⟩, ⟨B2, c2, addsP 1 N⟩] vA L.length vc L W hr (hrw.to hW) rfl (by omega) (fun u hu => by
          simp at hu
          rcases hu with rfl | rfl
          · exact addsP_may 0 N (by omega) (by omega) (by omega)
          · exact addsP_may 1 N (by omega) (by omega) (by omega)) (hLr.to hW) (by omega) (List.replicate 64 0, [((0 : Int), N), ((1 : Int), N)].map fun x => addsP x.1 x.2) rfl)
      generalize runs (List.replicate 64 0, [((0 : Int), N), ((1 : Int), N)].map fun x => addsP x.1 x.2) L = R at HS hT hstill
      obtain ⟨C, hC⟩ : ∃ C, C = L.count 0 := ⟨_, rfl⟩
      have hc1 : L.count 1 = 0 := List.count_eq_zero.2 (fun h' => hno1 1 h' rfl)
      have hw0 : ith R.1 0 = (min C N : Nat) := by
        rw [hT.2.2.2 0 (by omega)]
        simp [tot, part, List.range_succ, ← hC]
      have hw1 : ith R.1 1 = 0 := by
        rw [hT.2.2.2 1 (by omega)]
        simp [tot, part, List.range_succ, hc1]
      obtain ⟨p0, hp0, hf0⟩ := hT.2.2.1 0 (0, N) rfl
      simp [← hC] at hf0
      have hR1 : R.2[1]? = some (addsP 1 N) := by rw [hstill]; rfl
      have hRl : R.2.length = 2 := hT.2.1
      obtain ⟨_, _, hd0, ht0⟩ := hf0
      have HP0 := Lib.hid hp0
      have HR1 := Lib.hid hR1
      have HRL := Lib.hid hRl
      have HW0 := Lib.hid hw0
      have HW1 := Lib.hid hw1
      have HD0 := Lib.hid hd0
      have HT0 := Lib.hid ht0
      rw [← hC] at hcl ⊢
      clear hT hstill hp0 hR1 hRl hw0 hw1 hd0 ht0 hc1 hno1 hC hown
      go_upto_region 13 with fail
      go_cut [10, 11, 12] (fun s1 s2 s3 wx => Ext wr wx ∧ ∃ a1 c3 B3 d3 vs3, s1 = .slice (some a1) 64 c3 ∧ s2 = .slice B3 2 d3 ∧ s3 = .int .i64 0 ∧ Rd wx 1 (some a1) 64 (Us R.1) ∧ Row wx B3 vs3 ∧ Hid (vs3.map (·.p) = R.2))
      case first =>
        go_wp2_with fail
        refine (HS.out _ ((Ext.refl _).new _) _ (Rd.zeros rfl)).mono ?_; rintro e w4 ⟨A1, c3, B3, d3, vs3, rfl, hr3, hv3, hmap3, hx3, _, _⟩
        obtain ⟨a1, rfl⟩ := hr3.some_ (by omega) (by omega)
        go_wp2_with fail
        go_meet
        case rel => exact ⟨((Ext.refl _).new _).step hx3, _, _, _, _, vs3, rfl, rfl, rfl, hr3, hv3, hmap3⟩
      case rest =>
        obtain ⟨E3, a1, c3, B3, d3, vs3, rfl, rfl, rfl, hr3, hv3, hmap3⟩ := hcut
        rename World => wq
        clear HS
        have E4 := (E2.new _).step (hx.step E3)
        replace hrw := hrw.to E3
        go_wp2_with fail
        refine (alive_yes _).mono ?_; rintro e w7 ⟨rfl, hx7⟩
        replace hv3 := hv3.to hx7; replace hr3 := hr3.to hx7; replace hrw := hrw.to hx7
        replace E4 := E4.step hx7
        clear hx7 E3
        obtain ⟨u0, u1, rfl⟩ : ∃ u0 u1, vs3 = [u0, u1] := by
          have h2 : vs3.length = 2 := by
            have := congrArg List.length hmap3.out
            rw [HRL.out] at this
            simpa using this
          match vs3, h2 with
          | [u0, u1], _ => exact ⟨u0, u1, rfl⟩
        have e0 : u0.p = p0 := by
          have e := congrArg (fun l => l[0]?) hmap3.out
          simp only [HP0.out] at e
          simpa using e
        have e1 : u1.p = addsP 1 N := by
          have e := congrArg (fun l => l[1]?) hmap3.out
          simp only [HR1.out] at e
          simpa using e
        have hpr1 := hv3.2 u1 (by simp)
        have hpl1 := hrw.2 ⟨B2, c2, addsP 1 N⟩ (by simp)
        obtain ⟨b3, rfl, g0, g1, g2, g3, g4, g5, g6, g7⟩ := hv3.1.eight (i := 0) rfl
        obtain ⟨b3', hb3, q0, q1, q2, q3, q4, q5, q6, q7⟩ := hv3.1.eight (i := 1) rfl
        obtain rfl := Option.some.inj hb3
        obtain ⟨l3', hl3, k0, k1, k2, k3, k4, k5, k6, k7⟩ := hrw.1.eight (i := 1) rfl
        obtain rfl := Option.some.inj hl3
        obtain ⟨uB, uc, up⟩ := u1
        dsimp only at e1 hpr1 q0 q1 q2 q3 q4 q5 q6 q7 hpl1 k0 k1 k2 k3 k4 k5 k6 k7
        subst e1
        rw [e0, HD0.out] at g6
        rw [e0, HT0.out] at g7
        have m0 := hr3.u64 (j := 0) (by omega)
        have m1 := hr3.u64 (j := 1) (by omega)
        rw [HW0.out] at m0
        rw [HW1.out] at m1
        have hLk := Lib.hid (fun (W : World) (hW : Ext w7 W) => like_yes uB B2 uc c2 (addsP 1 N) W (hpr1.to hW) (hpl1.to hW) (by rw [addsP_length]; omega))
        clear hb3 hl3
        have hSE : ∀ W, Ext w7 W → (W.cell? { block := b3.block, off := b3.off + 8 } = some (.slice uB (addsP 1 N).prog.length uc) ∧ W.cell? { block := b3.block, off := b3.off + 8 + 1 } = some (.int .i64 (addsP 1 N).at_) ∧ W.cell? { block := b3.block, off := b3.off + 8 + 2 } = some (.int .u64 ((addsP 1 N).rs 0)) ∧ W.cell? { block := b3.block, off := b3.off + 8 + 3 } = some (.int .u64 ((addsP 1 N).rs 1)) ∧ W.cell? { block := b3.block, off := b3.off + 8 + 4 } = some (.int .u64 ((addsP 1 N).rs 2)) ∧ W.cell? { block := b3.block, off := b3.off + 8 + 5 } = some (.int .u64 ((addsP 1 N).rs 3)) ∧ W.cell? { block := b3.block, off := b3.off + 8 + 6 } = some (.bool (addsP 1 N).done) ∧ W.cell? { block := b3.block, off := b3.off + 8 + 7 } = some (.int .i64 (addsP 1 N).took) ∧ W.cell? ⟨w2.heap.size, 8, none⟩ = some (.slice B2 (addsP 1 N).prog.length c2) ∧ W.cell? ⟨w2.heap.size, 9, none⟩ = some (.int .i64 (addsP 1 N).at_) ∧ W.cell? ⟨w2.heap.size, 10, none⟩ = some (.int .u64 ((addsP 1 N).rs 0)) ∧ W.cell? ⟨w2.heap.size, 11, none⟩ = some (.int .u64 ((addsP 1 N).rs 1)) ∧ W.cell? ⟨w2.heap.size, 12, none⟩ = some (.int .u64 ((addsP 1 N).rs 2)) ∧ W.cell? ⟨w2.heap.size, 13, none⟩ = some (.int .u64 ((addsP 1 N).rs 3)) ∧ W.cell? ⟨w2.heap.size, 14, none⟩ = some (.bool (addsP 1 N).done) ∧ W.cell? ⟨w2.heap.size, 15, none⟩ = some (.int .i64 (addsP 1 N).took) ∧ W.cell? { block := a1.block, off := a1.off + 1 } = some (.int .u64 0) ∧ W.cell? a1 = some (.int .u64 (min C N : Nat)) ∧ W.cell? { block := b3.block, off := b3.off + 6 } = some (.bool (decide (N < C))) ∧ W.cell? { block := b3.block, off := b3.off + 7 } = some (.int .i64 (min C (N + 1) : Nat))) := fun W hW =>
          ⟨hW.cellOf q0, hW.cellOf q1, hW.cellOf q2, hW.cellOf q3, hW.cellOf q4, hW.cellOf q5, hW.cellOf q6, hW.cellOf q7, hW.cellOf k0, hW.cellOf k1, hW.cellOf k2, hW.cellOf k3, hW.cellOf k4, hW.cellOf k5, hW.cellOf k6, hW.cellOf k7, hW.cellOf m1, hW.cellOf m0, hW.cellOf g6, hW.cellOf g7⟩
        have HSE := Lib.hid hSE
        clear hSE q0 q1 q2 q3 q4 q5 q6 q7 k0 k1 k2 k3 k4 k5 k6 k7 m1 m0 g0 g1 g2 g3 g4 g5 g6 g7 hpr1 hpl1 hrw hv3 hr3
        rcases (by omega : ¬ N < C ∨ C = N + 1 ∨ N + 1 < C) with hc | hc | hc
        · have hA : ¬ N < C := by omega
          have hB : ¬ N + 1 < C := by omega
          have hB2 : ¬ ((N : Int) + 1 < (C : Int)) := by omega
          have hB3 : decide ((N : Int) + 1 < (C : Int)) = false := by simp; omega
          rw [show ((min C N : Nat) : Int) = (C : Int) by omega, show ((min C (N + 1) : Nat) : Int) = (C : Int) by omega, show decide (N < C) = false by simp; omega] at HSE
          have hw : IntKind.u64.wrap ((C : Nat) : Int) = ((C : Nat) : Int) := by rw [IntKind.wrap_u64]; omega
          have hwr : IntKind.i64.wrap ((N : Int) + 1) = (N : Int) + 1 := by rw [IntKind.wrap_i64]; omega
          clear hc
          go_wp2_with fail
          have hB5 : ((N : Int) + 1 < (C : Int)) = False := by simp; omega
          go_region_held3 (fun W => W.cell? { block := b3.block, off := b3.off + 8 } = some (.slice uB (addsP 1 N).prog.length uc) ∧ W.cell? { block := b3.block, off := b3.off + 8 + 1 } = some (.int .i64 (addsP 1 N).at_) ∧ W.cell? { block := b3.block, off := b3.off + 8 + 2 } = some (.int .u64 ((addsP 1 N).rs 0)) ∧ W.cell? { block := b3.block, off := b3.off + 8 + 3 } = some (.int .u64 ((addsP 1 N).rs 1)) ∧ W.cell? { block := b3.block, off := b3.off + 8 + 4 } = some (.int .u64 ((addsP 1 N).rs 2)) ∧ W.cell? { block := b3.block, off := b3.off + 8 + 5 } = some (.int .u64 ((addsP 1 N).rs 3)) ∧ W.cell? { block := b3.block, off := b3.off + 8 + 6 } = some (.bool (addsP 1 N).done) ∧ W.cell? { block := b3.block, off := b3.off + 8 + 7 } = some (.int .i64 (addsP 1 N).took) ∧ W.cell? ⟨w2.heap.size, 8, none⟩ = some (.slice B2 (addsP 1 N).prog.length c2) ∧ W.cell? ⟨w2.heap.size, 9, none⟩ = some (.int .i64 (addsP 1 N).at_) ∧ W.cell? ⟨w2.heap.size, 10, none⟩ = some (.int .u64 ((addsP 1 N).rs 0)) ∧ W.cell? ⟨w2.heap.size, 11, none⟩ = some (.int .u64 ((addsP 1 N).rs 1)) ∧ W.cell? ⟨w2.heap.size, 12, none⟩ = some (.int .u64 ((addsP 1 N).rs 2)) ∧ W.cell? ⟨w2.heap.size, 13, none⟩ = some (.int .u64 ((addsP 1 N).rs 3)) ∧ W.cell? ⟨w2.heap.size, 14, none⟩ = some (.bool (addsP 1 N).done) ∧ W.cell? ⟨w2.heap.size, 15, none⟩ = some (.int .i64 (addsP 1 N).took) ∧ W.cell? { block := a1.block, off := a1.off + 1 } = some (.int .u64 0) ∧ W.cell? a1 = some (.int .u64 (C : Int)) ∧ W.cell? { block := b3.block, off := b3.off + 6 } = some (.bool false) ∧ W.cell? { block := b3.block, off := b3.off + 7 } = some (.int .i64 (C : Int))) (first | exact HSE.out _ (Ext.refl w7).drew | exact HSE.out _ hx8) (first | (go_at_call 16; refine (hLk.out _ (Ext.refl w7).drew).mono ?_; rintro e w8 ⟨rfl, hx8'⟩; have hx8 : Ext w7 w8 := hx8'.undrew; clear hx8'))
          all_goals go_wp2_with fail
          all_goals go_ret
          all_goals exact ⟨rfl, E4.step hx8⟩
        · have hA : N < C := by omega
          have hB : ¬ N + 1 < C := by omega
          have hB2 : ¬ ((N : Int) + 1 < (C : Int)) := by omega
          have hB3 : decide ((N : Int) + 1 < (C : Int)) = false := by simp; omega
          rw [show ((min C N : Nat) : Int) = (N : Int) by omega, show ((min C (N + 1) : Nat) : Int) = (C : Int) by omega, show decide (N < C) = true by simp; omega] at HSE
          have hw : IntKind.u64.wrap ((N : Nat) : Int) = ((N : Nat) : Int) := by rw [IntKind.wrap_u64]; omega
          have hwr : IntKind.i64.wrap ((N : Int) + 1) = (N : Int) + 1 := by rw [IntKind.wrap_i64]; omega
          clear hc
          go_wp2_with fail
          have hB5 : ((N : Int) + 1 < (C : Int)) = False := by simp; omega
          go_region_held3 (fun W => W.cell? { block := b3.block, off := b3.off + 8 } = some (.slice uB (addsP 1 N).prog.length uc) ∧ W.cell? { block := b3.block, off := b3.off + 8 + 1 } = some (.int .i64 (addsP 1 N).at_) ∧ W.cell? { block := b3.block, off := b3.off + 8 + 2 } = some (.int .u64 ((addsP 1 N).rs 0)) ∧ W.cell? { block := b3.block, off := b3.off + 8 + 3 } = some (.int .u64 ((addsP 1 N).rs 1)) ∧ W.cell? { block := b3.block, off := b3.off + 8 + 4 } = some (.int .u64 ((addsP 1 N).rs 2)) ∧ W.cell? { block := b3.block, off := b3.off + 8 + 5 } = some (.int .u64 ((addsP 1 N).rs 3)) ∧ W.cell? { block := b3.block, off := b3.off + 8 + 6 } = some (.bool (addsP 1 N).done) ∧ W.cell? { block := b3.block, off := b3.off + 8 + 7 } = some (.int .i64 (addsP 1 N).took) ∧ W.cell? ⟨w2.heap.size, 8, none⟩ = some (.slice B2 (addsP 1 N).prog.length c2) ∧ W.cell? ⟨w2.heap.size, 9, none⟩ = some (.int .i64 (addsP 1 N).at_) ∧ W.cell? ⟨w2.heap.size, 10, none⟩ = some (.int .u64 ((addsP 1 N).rs 0)) ∧ W.cell? ⟨w2.heap.size, 11, none⟩ = some (.int .u64 ((addsP 1 N).rs 1)) ∧ W.cell? ⟨w2.heap.size, 12, none⟩ = some (.int .u64 ((addsP 1 N).rs 2)) ∧ W.cell? ⟨w2.heap.size, 13, none⟩ = some (.int .u64 ((addsP 1 N).rs 3)) ∧ W.cell? ⟨w2.heap.size, 14, none⟩ = some (.bool (addsP 1 N).done) ∧ W.cell? ⟨w2.heap.size, 15, none⟩ = some (.int .i64 (addsP 1 N).took) ∧ W.cell? { block := a1.block, off := a1.off + 1 } = some (.int .u64 0) ∧ W.cell? a1 = some (.int .u64 (N : Int)) ∧ W.cell? { block := b3.block, off := b3.off + 6 } = some (.bool true) ∧ W.cell? { block := b3.block, off := b3.off + 7 } = some (.int .i64 (C : Int))) (first | exact HSE.out _ (Ext.refl w7).drew | exact HSE.out _ hx8) (first | (go_at_call 16; refine (hLk.out _ (Ext.refl w7).drew).mono ?_; rintro e w8 ⟨rfl, hx8'⟩; have hx8 : Ext w7 w8 := hx8'.undrew; clear hx8'))
          all_goals go_wp2_with fail
          all_goals go_ret
          all_goals exact ⟨rfl, E4.step hx8⟩
        · have hA : N < C := by omega
          have hB : N + 1 < C := by omega
          have hB2 :  ((N : Int) + 1 < (C : Int)) := by omega
          have hB3 : decide ((N : Int) + 1 < (C : Int)) = true := by simp; omega
          rw [show ((min C N : Nat) : Int) = (N : Int) by omega, show ((min C (N + 1) : Nat) : Int) = ((N : Int) + 1) by omega, show decide (N < C) = true by simp; omega] at HSE
          have hw : IntKind.u64.wrap ((N : Nat) : Int) = ((N : Nat) : Int) := by rw [IntKind.wrap_u64]; omega
          have hwr : IntKind.i64.wrap ((N : Int) + 1) = (N : Int) + 1 := by rw [IntKind.wrap_i64]; omega
          clear hc
          go_wp2_with fail
          have hB5 : ((N : Int) + 1 < (C : Int)) = True := by simp; omega
          go_region_held3 (fun W => W.cell? { block := b3.block, off := b3.off + 8 } = some (.slice uB (addsP 1 N).prog.length uc) ∧ W.cell? { block := b3.block, off := b3.off + 8 + 1 } = some (.int .i64 (addsP 1 N).at_) ∧ W.cell? { block := b3.block, off := b3.off + 8 + 2 } = some (.int .u64 ((addsP 1 N).rs 0)) ∧ W.cell? { block := b3.block, off := b3.off + 8 + 3 } = some (.int .u64 ((addsP 1 N).rs 1)) ∧ W.cell? { block := b3.block, off := b3.off + 8 + 4 } = some (.int .u64 ((addsP 1 N).rs 2)) ∧ W.cell? { block := b3.block, off := b3.off + 8 + 5 } = some (.int .u64 ((addsP 1 N).rs 3)) ∧ W.cell? { block := b3.block, off := b3.off + 8 + 6 } = some (.bool (addsP 1 N).done) ∧ W.cell? { block := b3.block, off := b3.off + 8 + 7 } = some (.int .i64 (addsP 1 N).took) ∧ W.cell? ⟨w2.heap.size, 8, none⟩ = some (.slice B2 (addsP 1 N).prog.length c2) ∧ W.cell? ⟨w2.heap.size, 9, none⟩ = some (.int .i64 (addsP 1 N).at_) ∧ W.cell? ⟨w2.heap.size, 10, none⟩ = some (.int .u64 ((addsP 1 N).rs 0)) ∧ W.cell? ⟨w2.heap.size, 11, none⟩ = some (.int .u64 ((addsP 1 N).rs 1)) ∧ W.cell? ⟨w2.heap.size, 12, none⟩ = some (.int .u64 ((addsP 1 N).rs 2)) ∧ W.cell? ⟨w2.heap.size, 13, none⟩ = some (.int .u64 ((addsP 1 N).rs 3)) ∧ W.cell? ⟨w2.heap.size, 14, none⟩ = some (.bool (addsP 1 N).done) ∧ W.cell? ⟨w2.heap.size, 15, none⟩ = some (.int .i64 (addsP 1 N).took) ∧ W.cell? { block := a1.block, off := a1.off + 1 } = some (.int .u64 0) ∧ W.cell? a1 = some (.int .u64 (N : Int)) ∧ W.cell? { block := b3.block, off := b3.off + 6 } = some (.bool true) ∧ W.cell? { block := b3.block, off := b3.off + 7 } = some (.int .i64 ((N : Int) + 1))) (first | exact HSE.out _ (Ext.refl w7).drew | exact HSE.out _ hx8) (first | (go_at_call 16; refine (hLk.out _ (Ext.refl w7).drew).mono ?_; rintro e w8 ⟨rfl, hx8'⟩; have hx8 : Ext w7 w8 := hx8'.undrew; clear hx8'))
          all_goals go_wp2_with fail
          all_goals go_ret
          all_goals exact ⟨rfl, E4.step hx8⟩

theorem MachineEnds_walk (w : World) (x0 : Int) (_ : (Lit.int .i64 x0).wf = true) (PA : Option Addr) (m k : Nat) (picks : List Int) (hp : Rd w 1 PA m (Ks .i64 picks)) (hmk : m ≤ k) (hk : k ≤ maxLen) (_ : ∀ z ∈ picks, (Lit.int .i64 z).wf = true) :
    Calls Try.prog 7 #[.int .i64 x0, .slice PA m k] w fun e w' => e = .returned (.bool true) ∧ Ext w w' :=
  ends_walk w x0 PA m k picks hp (Nat.le_trans hmk hk)

end Go.Proofs.Yteiabmbfjfaboaa
