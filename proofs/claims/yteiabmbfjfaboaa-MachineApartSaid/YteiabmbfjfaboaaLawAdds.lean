/-
  The walk of MachineAdds: processes that add to one word come to the sum of all that they added.
-/
import Derived.Test.YteiabmbfjfaboaaTally
import Derived.BigQuiet
set_option linter.unusedVariables false
set_option linter.unusedSimpArgs false
namespace Go.Proofs.Yteiabmbfjfaboaa
open Go.RowKit
attribute [local go_sem ↓] Go.wp_at_zero Go.wp_at_succ

theorem ints_take {w : World} {PA : Option Addr} {m k : Nat} {xs : List Int} (h : Rd w 1 PA m (Ks .i64 xs)) (hk : k ≤ m) : Rd w 1 PA k (Ks .i64 (xs.take k)) := by
  have := h.take hk
  rw [Nat.mul_one] at this
  simpa [Ks] using this
/-- (x mod 6 + 6) mod 6. -/
def sixth (x : Int) : Nat := (x % 6).toNat
theorem sixth_lt (x : Int) : sixth x < 6 := by unfold sixth; omega
theorem sixth_is (x : Int) : (wrap64 (x.tmod 6 + 6)).tmod 6 = (sixth x : Int) := by
  have e0 : 0 ≤ x % 6 := Int.emod_nonneg _ (by omega)
  have e1 : x % 6 < 6 := Int.emod_lt_of_pos _ (by omega)
  unfold sixth
  rw [Int.toNat_of_nonneg e0]
  have h1 : x.tmod 6 = x % 6 ∨ x.tmod 6 = x % 6 - 6 := by
    rw [Int.tmod_eq_emod]
    split
    · left; omega
    · right; simp
  have w64 (z : Int) (h1 : 0 ≤ z) (h2 : z < 100) : wrap64 z = z := by
    unfold wrap64
    omega
  rcases h1 with h | h
  · rw [h, w64 _ (by omega) (by omega), Int.tmod_eq_emod_of_nonneg (by omega)]
    omega
  · rw [h, w64 _ (by omega) (by omega), Int.tmod_eq_emod_of_nonneg (by omega)]
    omega
theorem take_get {α : Type} (xs : List α) (k : Nat) (x : α) (h : xs[k]? = some x) : xs.take (k + 1) = xs.take k ++ [x] := by
  rw [List.take_add_one, h]
  rfl
theorem count_get (xs : List Int) (k : Nat) (x y : Int) (h : xs[k]? = some x) : (xs.take (k + 1)).count y = (xs.take k).count y + if x = y then 1 else 0 := by
  rw [take_get xs k x h, List.count_append, List.count_singleton]
  by_cases e : x = y <;> simp [e]

set_option maxRecDepth 100000 in
set_option maxHeartbeats 4000000 in
theorem adds_walk (w : World) (A : Option Addr) (n c : Nat) (many : List Int) (h : Rd w 1 A n (Ks .i64 many)) (PA : Option Addr) (m0 k : Nat) (picks0 : List Int) (hp0 : Rd w 1 PA m0 (Ks .i64 picks0)) (hmk : m0 ≤ k) (hn0 : n ≤ maxLen) :
    Calls Try.prog 5 #[.slice A n c, .slice PA m0 k] w fun e w' => e = .returned (.bool true) ∧ Ext w w' := by
  obtain ⟨i0, hi0, hz0, hz1, hz2⟩ := info_parts proc_info
  have hnl : many.length = n := by have := h.1; simpa [Ks] using this
  have hn : n ≤ 9223372036854775807 := by have := hn0; simp only [maxLen] at this; omega
  clear hn0
  go_enter Try.func5, Try.ntmps5
  go_wp2_with fail
  go_loopw [5, 20] (fun v j wr => Ext w wr ∧ ∃ (t : Nat) (vs : List Pv), t ≤ n ∧ j = .int .i64 t ∧ PRow wr w.heap.size v vs ∧ vs.length ≤ 8 ∧ Hid (vs.length = min t 8) ∧ Hid (vs.map (·.p) = (many.take (min t 8)).map fun x => addsP 0 (sixth x))) (fun _ j _ => n - (intOf j).toNat)
  case atStart => exact ⟨Ext.refl w, 0, [], Nat.zero_le _, rfl, PRow.nil _ _, by simp, by show _ = _; simp, by show _ = _; simp⟩
  case round =>
    obtain ⟨hx, t, vs, htn, rfl, hrow, h8, HC, HM⟩ := hrel
    obtain ⟨vA, vc, rfl⟩ := own_slice hrow.1
    by_cases hlt : t < n
    · obtain ⟨ad, rfl⟩ := h.some_ (by omega) (by omega)
      obtain ⟨x, hxt⟩ : ∃ x, many[t]? = some x := ⟨_, List.getElem?_eq_getElem (by omega)⟩
      have cx := hx.cellOf (h.cells t (.int .i64 x) (by simp [Ks, hxt]))
      have hr := sixth_is x
      have hr6 := sixth_lt x
      have HX := Lib.hid hxt
      clear hxt
      by_cases ht8 : t < 8
      · have hv5 : vs.length < 8 := by have := HC.out; omega
        go_wp2_with fail
        refine (adds_is 0 (sixth x) (by omega) _).mono ?_; rintro e w1 ⟨B1, c1, rfl, hp1, hx1, hf1⟩
        have hr1 := Rd.lit w1 #[.slice B1 ((addsP 0 (sixth x))).prog.length c1, .int .i64 ((addsP 0 (sixth x))).at_, .int .u64 (((addsP 0 (sixth x))).rs 0), .int .u64 (((addsP 0 (sixth x))).rs 1), .int .u64 (((addsP 0 (sixth x))).rs 2), .int .u64 (((addsP 0 (sixth x))).rs 3), .bool ((addsP 0 (sixth x))).done, .int .i64 ((addsP 0 (sixth x))).took] 27 1 (size := 8) rfl
        have ho := (own_ext hrow.1 hx1).alloc (.cells #[.slice B1 ((addsP 0 (sixth x))).prog.length c1, .int .i64 ((addsP 0 (sixth x))).at_, .int .u64 (((addsP 0 (sixth x))).rs 0), .int .u64 (((addsP 0 (sixth x))).rs 1), .int .u64 (((addsP 0 (sixth x))).rs 2), .int .u64 (((addsP 0 (sixth x))).rs 3), .bool ((addsP 0 (sixth x))).done, .int .i64 ((addsP 0 (sixth x))).took] 27)
        go_wp2_with (first
          | (at_builtin
             refine wpList_append_rd _ rfl (.tmp 27) (.tmp 33) _ rfl w.heap.size 27 i0 _ 8 80 Try.underlying34 hi0 hz0 hz1 hz2 rfl (by omega) (.slice vA vs.length vc) vs.length _ rfl ho _ 1 1 _ rfl hr1 (Pv.cells_one ⟨B1, c1, addsP 0 (sixth x)⟩) (by simp only [maxLen]; omega) (by omega) (by have := hx.size; have := hx1.size; simp; omega) ?_
             intro v1 w2 hown2 hg2 hat2))
        go_roundw
        case rel =>
          refine ⟨own_back ((hx.step hx1).new _) (by have := hx.size; have := hx1.size; simp; omega) hg2 (fun q hq => (ho.lt q hq).1), t + 1, vs ++ [⟨B1, c1, addsP 0 (sixth x)⟩], by omega, by go_num, ?_, by simp; omega, ?_, ?_⟩
          · exact hrow.push hx1 ⟨B1, c1, addsP 0 (sixth x)⟩ (by show 0 < (addsP _ _).prog.length; rw [addsP_length]; omega) hp1 hf1 hown2 hg2 hat2
          · show _ = _
            have := HC.out
            simp
            omega
          · show _ = _
            rw [List.map_append, HM.out, show min (t + 1) 8 = t + 1 by omega, show min t 8 = t by omega, take_get many t x HX.out, List.map_append]
            rfl
        case measure => simp [intOf]; omega
      · go_wp2_with fail
        go_roundw
        case rel => exact ⟨hx, t + 1, vs, by omega, by go_num, hrow, h8, by show _ = _; rw [HC.out]; omega, by show _ = _; rw [HM.out, show min (t + 1) 8 = min t 8 by omega]⟩
        case measure => simp [intOf]; omega
    · obtain ⟨specs, hspecs⟩ : ∃ specs : List (Int × Nat), specs = (many.take 8).map fun x => ((0 : Int), sixth x) := ⟨_, rfl⟩
      have hsl : specs.length = vs.length := by
        rw [hspecs, HC.out]
        simp
        omega
      have hvm : Hid (vs.map (·.p) = specs.map fun x => addsP x.1 x.2) := by
        show _ = _
        rw [HM.out, hspecs, List.map_map]
        have : t = n := by omega
        rw [show many.take (min t 8) = many.take 8 by
          rcases Nat.le_total t 8 with h' | h'
          · rw [Nat.min_eq_left h', List.take_of_length_le (by omega), List.take_of_length_le (by omega)]
          · rw [Nat.min_eq_right h']]
        rfl
      have hsm : Small specs := by
        refine ⟨by omega, fun x hx' => ?_⟩
        rw [hspecs] at hx'
        obtain ⟨y, _, rfl⟩ := List.mem_map.1 hx'
        have := sixth_lt y
        exact ⟨by simp, by simp, by simp; omega⟩
      have hs0 : ∀ x ∈ specs, x.1 = 0 := by
        intro x hx'
        rw [hspecs] at hx'
        obtain ⟨y, _, rfl⟩ := List.mem_map.1 hx'
        rfl
      clear hspecs HM HC h
      obtain ⟨m, hm⟩ : ∃ m : Nat, m = min m0 300 := ⟨_, rfl⟩
      have HMM := Lib.hid hm
      have hm300 : m ≤ 300 := by omega
      have hp := ints_take hp0 (k := m) (by omega)
      clear hm
      go_upto_region 8 with fail
      go_cut [1] (fun s wx => s = .slice PA m k ∧ wr = wx)
      case first =>
        by_cases hc : m0 ≤ 300
        · obtain rfl : m0 = m := by have := HMM.out; omega
          go_wp2_with fail
          all_goals (go_meet; case rel => exact ⟨rfl, rfl⟩)
        · obtain rfl : m = 300 := by have := HMM.out; omega
          go_wp2_with fail
          all_goals (go_meet; case rel => exact ⟨rfl, rfl⟩)
      case rest =>
        obtain ⟨rfl, rfl⟩ := hcut
        have hpl : (picks0.take m).length = m := by
          have := hp.1
          simpa [Ks] using this
        generalize picks0.take m = picks at hp hpl
        clear hp0 HMM
        have hmk2 := make64
        obtain ⟨hv, hvn⟩ := hrow.row
        have hT := tally_all hsm picks
        have HS := Lib.hid (fun (W : World) (hW : Ext wr W) (ad : Addr) (hr : Rd W 1 (some ad) 64 (Us (List.replicate 64 0))) (hys : Rd W 1 PA m (Ks .i64 picks)) =>
          run_by ad 64 (List.replicate 64 0) vA vs.length vc vs PA m k picks W hr (hv.to hW) rfl (by omega) (fun u hu => by
            have h1 : u.p ∈ vs.map (·.p) := List.mem_map.2 ⟨u, hu, rfl⟩
            rw [hvm.out] at h1
            obtain ⟨x, hx', e⟩ := List.mem_map.1 h1
            have := hsm.2 x hx'
            rw [← e]
            exact addsP_may _ _ (by omega) (by omega) (by omega)) hys (by omega) (List.replicate 64 0, specs.map fun x => addsP x.1 x.2) (by rw [hvm.out]))
        generalize runs (List.replicate 64 0, specs.map fun x => addsP x.1 x.2) picks = R at HS hT
        generalize hcnt : (fun i : Nat => if i < specs.length then picks.count (i : Int) else 0) = cnt at hT
        have HC := Lib.hid (show ∀ i, i < specs.length → cnt i = picks.count (i : Int) from fun i hi => by rw [← hcnt]; simp [hi])
        have HT := Lib.hid hT
        clear hT hcnt
        go_upto_region 9 with fail
        go_cut [8, 9, 10] (fun s1 s2 s3 wx => Ext wr wx ∧ ∃ a1 c1 B1 d1 vs1, s1 = .slice (some a1) 64 c1 ∧ s2 = .slice B1 vs.length d1 ∧ s3 = .int .i64 0 ∧ Rd wx 1 (some a1) 64 (Us R.1) ∧ Row wx B1 vs1 ∧ Hid (vs1.map (·.p) = R.2))
        case first =>
          go_wp2_with fail
          refine (HS.out _ ((Ext.refl _).new _) _ (Rd.zeros rfl) ((hp.to hx).to ((Ext.refl _).new _))).mono ?_; rintro e w1 ⟨A1, c1, B1, d1, vs1, rfl, hr1, hv1, hmap1, hx1, _, _⟩
          obtain ⟨a1, rfl⟩ := hr1.some_ (by omega) (by omega)
          go_wp2_with fail
          go_meet
          case rel => exact ⟨((Ext.refl _).new _).step hx1, _, _, _, _, vs1, rfl, rfl, rfl, hr1, hv1, hmap1⟩
        case rest =>
          obtain ⟨E1, a1, c1, B1, d1, vs1, rfl, rfl, rfl, hr1, hv1, hmap1⟩ := hcut
          rename World => wq
          clear HS
          have E2 := hx.step E1
          have hv2 := hv.to E1
          have hp2 := hp.to E2
          go_wp2_with fail
          refine (alive_yes _).mono ?_; rintro e w7 ⟨rfl, hx7⟩
          replace hv1 := hv1.to hx7; replace hr1 := hr1.to hx7; replace hv2 := hv2.to hx7; replace hp2 := hp2.to hx7
          replace E2 := E2.step hx7
          clear hx7 E1 hx hv hp
          go_wp2_with fail
          go_loopw [11, 69] (fun s j wy => Ext w7 wy ∧ ∃ q : Nat, q ≤ vs.length ∧ j = .int .i64 q ∧ s = .int .i64 (((List.range q).map (part specs cnt 0)).sum : Nat)) (fun _ j _ => vs.length - (intOf j).toNat)
          case atStart => exact ⟨Ext.refl _, 0, Nat.zero_le _, rfl, rfl⟩
          case round =>
            obtain ⟨hy, q, hq, rfl, rfl⟩ := hrel
            rename World => wy
            obtain ⟨Sq, hSq⟩ : ∃ Sq : Nat, Sq = ((List.range q).map (part specs cnt 0)).sum := ⟨_, rfl⟩
            have hSle : Sq ≤ 504 := by
              have := sum_le (part specs cnt 0) 63 (part_le hsm cnt 0) q
              have := hsm.1
              omega
            rw [← hSq]
            have HSq := Lib.hid hSq
            clear hSq
            by_cases hqv : q < vs.length
            · obtain ⟨x, hx⟩ : ∃ x, specs[q]? = some x := ⟨_, List.getElem?_eq_getElem (by omega)⟩
              obtain ⟨p1, hp1, hf1⟩ := HT.out.2.2.1 q x hx
              obtain ⟨u1, hu1⟩ : ∃ u, vs1[q]? = some u := ⟨_, List.getElem?_eq_getElem (by
                have := congrArg List.length hmap1.out
                rw [HT.out.2.1] at this
                simp at this
                omega)⟩
              obtain ⟨u, hu⟩ : ∃ u, vs[q]? = some u := ⟨_, List.getElem?_eq_getElem hqv⟩
              have e1 : u1.p = p1 := by
                have e := congrArg (fun l => l[q]?) hmap1.out
                simp only [List.getElem?_map, hu1, hp1, Option.map_some, Option.some.injEq] at e
                exact e
              have e2 : u.p = addsP x.1 x.2 := by
                have e := congrArg (fun l => l[q]?) hvm.out
                simp only [List.getElem?_map, hu, hx, Option.map_some, Option.some.injEq] at e
                exact e
              obtain ⟨N, hN⟩ : ∃ N, N = x.2 := ⟨_, rfl⟩
              have hN63 : N ≤ 63 := by rw [hN]; exact (hsm.2 x (List.mem_of_getElem? hx)).2.2
              have hx0 : x.1 = 0 := hs0 x (List.mem_of_getElem? hx)
              have hcq := HC.out q (by omega)
              obtain ⟨C, hC⟩ : ∃ C, C = picks.count (q : Int) := ⟨_, rfl⟩
              have hCm : C ≤ m := by
                have := List.count_le_length (a := (q : Int)) (l := picks)
                omega
              have HP : Hid (part specs cnt 0 q = min C N) := by
                show _ = _
                unfold part
                rw [hx]
                simp [hx0, hcq, ← hC, hN]
              obtain ⟨_, _, f3, f4⟩ := hf1
              rw [← e1] at f3 f4
              rw [hcq, ← hC, ← hN] at f3 f4
              rw [← hN] at e2
              obtain ⟨uA, uc, up⟩ := u
              dsimp only at e2
              subst e2
              obtain ⟨d0, hd0, g0, g1, g2, g3, g4, g5, g6, g7⟩ := (hv2.to hy).1.eight hu
              obtain ⟨d1', hd1, q0, q1, q2, q3, q4, q5, q6, q7⟩ := (hv1.to hy).1.eight hu1
              subst hd0 hd1
              dsimp only at g0 g1 g2 g3 g4 g5 g6 g7
              rw [addsP_length] at g0
              rw [f3] at q6
              rw [f4] at q7
              have HC2 := Lib.hid hC
              clear hu hu1 hx hp1 e1 f3 f4 hcq hC hN hx0
              go_wp2_with fail
              go_loopw [14, 76] (fun s j wz => Ext wy wz ∧ Bx wz wy.heap.size #[.slice uA (N + 1) uc, .int .i64 (addsP x.1 N).at_, .int .u64 ((addsP x.1 N).rs 0), .int .u64 ((addsP x.1 N).rs 1), .int .u64 ((addsP x.1 N).rs 2), .int .u64 ((addsP x.1 N).rs 3), .bool (addsP x.1 N).done, .int .i64 (addsP x.1 N).took] ∧
                ∃ i : Nat, i ≤ m ∧ j = .int .i64 i ∧ s = .int .i64 ((picks.take i).count (q : Int) : Nat)) (fun _ j _ => m - (intOf j).toNat)
              case atStart => exact ⟨(Ext.refl _).new _, Bx.new _ _ _, 0, Nat.zero_le _, rfl, rfl⟩
              case round =>
                obtain ⟨hz, B13, i, him, rfl, rfl⟩ := hrel
                rename World => wz
                by_cases hi : i < m
                · obtain ⟨y, hyi⟩ : ∃ y, picks[i]? = some y := ⟨_, List.getElem?_eq_getElem (by omega)⟩
                  obtain ⟨pa, rfl⟩ := hp2.some_ (by omega) (by omega)
                  have cy := ((hp2.to hy).to hz).cells i (.int .i64 y) (by simp [Ks, hyi])
                  obtain ⟨ci, hci⟩ : ∃ ci, ci = (picks.take i).count (q : Int) := ⟨_, rfl⟩
                  have hcl : ci ≤ 300 := by
                    have := List.count_le_length (a := (q : Int)) (l := picks.take i)
                    simp at this
                    omega
                  have HN : Hid ((picks.take (i + 1)).count (q : Int) = ci + if y = (q : Int) then 1 else 0) := by
                    show _ = _
                    rw [count_get picks i y q hyi, hci]
                  rw [← hci]
                  clear hci hyi
                  by_cases e : y = (q : Int)
                  · subst e
                    go_wp2_with fail
                    go_roundw
                    case rel => exact ⟨hz, B13, i + 1, by omega, by go_num, by rw [HN.out]; simp⟩
                    case measure => simp [intOf]; omega
                  · have e' : (y == (q : Int)) = false := by simpa using e
                    go_wp2_with fail
                    go_roundw
                    case rel => exact ⟨hz, B13, i + 1, by omega, by go_num, by rw [HN.out]; simp [e]⟩
                    case measure => simp [intOf]; omega
                · have ei : picks.take i = picks := List.take_of_length_le (by omega)
                  rw [ei, ← HC2.out]
                  clear ei
                  have k13 := B13.cell
                  have k130 : wz.cell? ⟨wy.heap.size, 0, none⟩ = some (.slice uA (N + 1) uc) := B13.cell 0
                  have z13 := B13.lt
                  replace q0 := hz.cellOf q0; replace q6 := hz.cellOf q6; replace q7 := hz.cellOf q7
                  clear q1 q2 q3 q4 q5 g0 g1 g2 g3 g4 g5 g6 g7
                  by_cases hNC : N < C
                  · have hNC' : min C (N + 1) = N + 1 := by omega
                    rw [hNC', show ((N + 1 : Nat) : Int) = (N : Int) + 1 by omega] at q7
                    rw [show decide (N < C) = true by simpa using hNC] at q6
                    go_wp2_with fail
                    all_goals try (have hCN : C = N + 1 := by omega
                                   rw [show (C : Int) = (N : Int) + 1 by omega])
                    all_goals go_quiet (fail)
                    all_goals go_wp2_with fail
                    all_goals go_roundw
                    all_goals first
                      | (case rel => exact ⟨(hy.step hz).drewN _, q + 1, by omega, by go_num, by rw [List.range_succ, List.map_append, List.sum_append, List.map_singleton, List.sum_singleton, ← HSq.out, HP.out, show min C N = N by omega]; try rfl⟩)
                      | skip
                    all_goals (simp [intOf]; omega)
                  · have hNC' : min C (N + 1) = C := by omega
                    rw [hNC'] at q7
                    rw [show decide (N < C) = false by simpa using hNC] at q6
                    have hne : ((C : Int) == (N : Int) + 1) = false := by simp; omega
                    go_wp2_with fail
                    all_goals go_quiet (fail)
                    all_goals go_wp2_with fail
                    all_goals go_roundw
                    all_goals first
                      | (case rel => exact ⟨(hy.step hz).drewN _, q + 1, by omega, by go_num, by rw [List.range_succ, List.map_append, List.sum_append, List.map_singleton, List.sum_singleton, ← HSq.out, HP.out, show min C N = C by omega]; try rfl⟩)
                      | skip
                    all_goals (simp [intOf]; omega)
            · have eq : q = specs.length := by omega
              have hm0 := hr1.u64 (j := 0) (by omega)
              rw [HT.out.2.2.2 0 (by omega), show tot specs cnt 0 = Sq by rw [HSq.out, eq]; rfl, show a1.add 0 = a1 by simp [Addr.add]] at hm0
              replace hm0 := hy.cellOf hm0
              have hw : IntKind.u64.wrap (Sq : Int) = (Sq : Int) := by
                rw [IntKind.wrap_u64]
                omega
              go_wp2_with fail
              go_ret
              exact ⟨rfl, E2.step hy⟩

theorem MachineAdds_walk (w : World) (A : Option Addr) (n c : Nat) (many : List Int) (h : Rd w 1 A n (Ks .i64 many)) (hn : n ≤ c) (hm : c ≤ maxLen) (_ : ∀ z ∈ many, (Lit.int .i64 z).wf = true)
    (PA : Option Addr) (m k : Nat) (picks : List Int) (hp : Rd w 1 PA m (Ks .i64 picks)) (hmk : m ≤ k) (_ : k ≤ maxLen) (_ : ∀ z ∈ picks, (Lit.int .i64 z).wf = true) :
    Calls Try.prog 5 #[.slice A n c, .slice PA m k] w fun e w' => e = .returned (.bool true) ∧ Ext w w' :=
  adds_walk w A n c many h PA m k picks hp hmk (Nat.le_trans hn hm)

end Go.Proofs.Yteiabmbfjfaboaa
