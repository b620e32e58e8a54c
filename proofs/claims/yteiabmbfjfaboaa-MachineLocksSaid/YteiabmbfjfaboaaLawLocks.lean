/-
  The walk of MachineLocks: of processes that each swap one word from 0 to 1, once, just one gets it.
-/
import Derived.Test.YteiabmbfjfaboaaBeside
import Derived.Test.YteiabmbfjfaboaaLawAdds
set_option linter.unusedVariables false
set_option linter.unusedSimpArgs false
namespace Go.Proofs.Yteiabmbfjfaboaa
open Go.RowKit
attribute [local go_sem ↓] Go.wp_at_zero Go.wp_at_succ

theorem eighth_is (x : Int) : ∃ a : Nat, (wrap64 (x.tmod 8 + 8)).tmod 8 = (a : Int) ∧ a < 8 := by
  have e0 : 0 ≤ x % 8 := Int.emod_nonneg _ (by omega)
  have e1 : x % 8 < 8 := Int.emod_lt_of_pos _ (by omega)
  refine ⟨(x % 8).toNat, ?_, by omega⟩
  rw [Int.toNat_of_nonneg e0]
  have h1 : x.tmod 8 = x % 8 ∨ x.tmod 8 = x % 8 - 8 := by
    rw [Int.tmod_eq_emod]
    split
    · left; omega
    · right; simp
  have w64 (z : Int) (h1 : 0 ≤ z) (h2 : z < 100) : wrap64 z = z := by
    unfold wrap64
    omega
  rcases h1 with h | h
  · rw [h, w64 _ (by omega) (by omega), Int.tmod_eq_emod_of_nonneg (by omega)]
    omega
  · rw [h, w64 _ (by omega) (by omega), Int.tmod_eq_emod_of_nonneg (by omega)]
    omega
/-- A place, or none, as a number. -/
def code (f : Option Nat) : Int := match f with
  | none => -1
  | some f => f

/-- How many of the first q processes got the word. -/
def gotOf (F : Option Nat) (q : Nat) : Nat := match F with
  | none => 0
  | some f => if f < q then 1 else 0
theorem gotOf_zero (F : Option Nat) : gotOf F 0 = 0 := by cases F <;> simp [gotOf]
theorem gotOf_le (F : Option Nat) (q : Nat) : gotOf F q ≤ 1 := by
  cases F <;> simp [gotOf]
  split <;> omega
theorem gotOf_step (F : Option Nat) (q : Nat) : gotOf F (q + 1) = gotOf F q + if F = some q then 1 else 0 := by
  cases F with
  | none => simp [gotOf]
  | some f =>
    simp only [gotOf, Option.some.injEq]
    by_cases h : f = q
    · subst h
      simp
    · by_cases h' : f < q
      · simp [h, h']
        omega
      · have : ¬ f < q + 1 := by omega
        simp [h, h', this]

set_option maxRecDepth 100000 in
set_option maxHeartbeats 4000000 in
theorem locks_walk (w : World) (x0 : Int) (PA : Option Addr) (m0 k : Nat) (picks0 : List Int) (hp0 : Rd w 1 PA m0 (Ks .i64 picks0)) (hmk : m0 ≤ k) :
    Calls Try.prog 8 #[.int .i64 x0, .slice PA m0 k] w fun e w' => e = .returned (.bool true) ∧ Ext w w' := by
  obtain ⟨i0, hi0, hz0, hz1, hz2⟩ := info_parts proc_info
  obtain ⟨a, ha, ha8⟩ := eighth_is x0
  obtain ⟨N, hN⟩ : ∃ N, N = a + 1 := ⟨_, rfl⟩
  have hN8 : N ≤ 8 := by omega
  have HN := Lib.hid hN
  clear hN
  go_enter Try.func8, Try.ntmps8
  go_upto_region 1 with fail
  go_cut [0] (fun s wx => s = .int .i64 N ∧ w = wx)
  case first =>
    go_wp2_with fail
    go_meet
    case rel =>
      have := HN.out
      exact ⟨by congr 1; omega, rfl⟩
  case rest =>
    obtain ⟨rfl, rfl⟩ := hcut
    clear ha
    go_wp2_with fail
    go_loopw [5, 21] (fun v j wr => Ext w wr ∧ ∃ (t : Nat) (vs : List Pv), t ≤ N ∧ j = .int .i64 t ∧ PRow wr w.heap.size v vs ∧ vs.length = t ∧ Hid (vs.map (·.p) = List.replicate t lockP)) (fun _ j _ => N - (intOf j).toNat)
    case atStart => exact ⟨Ext.refl w, 0, [], Nat.zero_le _, rfl, PRow.nil _ _, by simp, by show _ = _; simp⟩
    case round =>
      obtain ⟨hx, t, vs, htn, rfl, hrow, ht, HM⟩ := hrel
      obtain ⟨vA, vc, rfl⟩ := own_slice hrow.1
      have HT := Lib.hid ht
      have hv8 : vs.length ≤ 8 := by omega
      clear ht
      by_cases hlt : t < N
      · have hp1 : Prg (wr.alloc (.cells #[.int .i64 3, .int .i64 0, .int .i64 5, .int .u64 0, .int .i64 0, .int .i64 8, .int .i64 0, .int .i64 0, .int .u64 0, .int .i64 0] 50)) (some ⟨wr.heap.size, 0, none⟩) lockP.prog := Rd.litAt rfl rfl rfl
        have hr1 := Rd.lit (wr.alloc (.cells #[.int .i64 3, .int .i64 0, .int .i64 5, .int .u64 0, .int .i64 0, .int .i64 8, .int .i64 0, .int .i64 0, .int .u64 0, .int .i64 0] 50)) #[.slice (some ⟨wr.heap.size, 0, none⟩) 2 2, .int .i64 0, .int .u64 1, .int .u64 0, .int .u64 0, .int .u64 0, .bool false, .int .i64 0] 27 1 (size := 8) rfl
        rw [show (wr.alloc (.cells #[.int .i64 3, .int .i64 0, .int .i64 5, .int .u64 0, .int .i64 0, .int .i64 8, .int .i64 0, .int .i64 0, .int .u64 0, .int .i64 0] 50)).heap.size = wr.heap.size + 1 by simp] at hr1
        have hx1 : Ext wr (wr.alloc (.cells #[.int .i64 3, .int .i64 0, .int .i64 5, .int .u64 0, .int .i64 0, .int .i64 8, .int .i64 0, .int .i64 0, .int .u64 0, .int .i64 0] 50)) := (Ext.refl wr).new _
        have ho := (own_ext hrow.1 hx1).alloc (.cells #[.slice (some ⟨wr.heap.size, 0, none⟩) 2 2, .int .i64 0, .int .u64 1, .int .u64 0, .int .u64 0, .int .u64 0, .bool false, .int .i64 0] 27)
        go_wp2_with (first
          | (at_builtin
             refine wpList_append_rd _ rfl (.tmp 23) (.tmp 29) _ rfl w.heap.size 27 i0 _ 8 80 Try.underlying34 hi0 hz0 hz1 hz2 rfl (by omega) (.slice vA vs.length vc) vs.length _ rfl ho _ 1 1 _ rfl hr1 (Pv.cells_one ⟨some ⟨wr.heap.size, 0, none⟩, 2, lockP⟩) (by simp only [maxLen]; omega) (by omega) (by have := hx.size; simp; omega) ?_
             intro v1 w2 hown2 hg2 hat2))
        go_roundw
        case rel =>
          refine ⟨own_back ((hx.step hx1).new _) (by have := hx.size; simp; omega) hg2 (fun q hq => (ho.lt q hq).1), t + 1, vs ++ [⟨some ⟨wr.heap.size, 0, none⟩, 2, lockP⟩], by omega, by go_num, ?_, by have := HT.out; simp; omega, ?_⟩
          · exact hrow.push hx1 ⟨some ⟨wr.heap.size, 0, none⟩, 2, lockP⟩ (by simp [lockP]) hp1 (fun q hq => by obtain rfl := Option.some.inj hq; exact Nat.le_refl _) hown2 hg2 hat2
          · show _ = _
            rw [List.map_append, HM.out, List.replicate_succ']
            rfl
        case measure => simp [intOf]; omega
      · have hvl : vs.length = N := by have := HT.out; omega
        have hvm : Hid (vs.map (·.p) = List.replicate N lockP) := by
          have e : t = N := by omega
          rw [← e]
          exact HM
        clear HT HM
        obtain ⟨m, hm⟩ : ∃ m : Nat, m = min m0 100 := ⟨_, rfl⟩
        have HMM := Lib.hid hm
        have hm300 : m ≤ 100 := by omega
        have hp := ints_take hp0 (k := m) (by omega)
        clear hm
        have HVL := Lib.hid hvl
        clear hvl
        go_upto_region 7 with fail
        go_cut [1] (fun s wx => s = .slice PA m k ∧ wr = wx)
        case first =>
          by_cases hc : m0 ≤ 100
          · obtain rfl : m0 = m := by have := HMM.out; omega
            go_wp2_with fail
            all_goals (go_meet; case rel => exact ⟨rfl, rfl⟩)
          · obtain rfl : m = 100 := by have := HMM.out; omega
            go_wp2_with fail
            all_goals (go_meet; case rel => exact ⟨rfl, rfl⟩)
        case rest =>
          obtain ⟨rfl, rfl⟩ := hcut
          have hpl : (picks0.take m).length = m := by
            have := hp.1
            simpa [Ks] using this
          generalize picks0.take m = picks at hp hpl
          clear hp0 HMM
          have hmk2 := make64
          obtain ⟨hv, hvn⟩ := hrow.row
          have hL := locks_runs N picks (locks_zero N)
          have HS := Lib.hid (fun (W : World) (hW : Ext wr W) (ad : Addr) (hr : Rd W 1 (some ad) 64 (Us (List.replicate 64 0))) (hys : Rd W 1 PA m (Ks .i64 picks)) =>
            run_by ad 64 (List.replicate 64 0) vA vs.length vc vs PA m k picks W hr (hv.to hW) rfl (by omega) (fun u hu => by
              have h1 : u.p ∈ vs.map (·.p) := List.mem_map.2 ⟨u, hu, rfl⟩
              rw [hvm.out] at h1
              rw [(List.mem_replicate.1 h1).2]
              exact lockP_may) hys (by omega) (List.replicate 64 0, List.replicate N lockP) (by rw [hvm.out]))
          generalize runs (List.replicate 64 0, List.replicate N lockP) picks = R at HS hL
          have HL := Lib.hid hL
          clear hL
          go_upto_region 8 with fail
          go_cut [6, 7, 8] (fun s1 s2 s3 wx => Ext wr wx ∧ ∃ a1 c1 B1 d1 vs1, s1 = .slice (some a1) 64 c1 ∧ s2 = .slice B1 N d1 ∧ s3 = .int .i64 0 ∧ Rd wx 1 (some a1) 64 (Us R.1) ∧ Row wx B1 vs1 ∧ Hid (vs1.map (·.p) = R.2))
          case first =>
            go_wp2_with fail
            refine (HS.out _ ((Ext.refl _).new _) _ (Rd.zeros rfl) ((hp.to hx).to ((Ext.refl _).new _))).mono ?_; rintro e w1 ⟨A1, c1, B1, d1, vs1, rfl, hr1, hv1, hmap1, hx1, _, _⟩
            obtain ⟨a1, rfl⟩ := hr1.some_ (by omega) (by omega)
            go_wp2_with fail
            go_meet
            case rel => exact ⟨((Ext.refl _).new _).step hx1, _, _, _, _, vs1, rfl, by rw [HVL.out], rfl, hr1, hv1, hmap1⟩
          case rest =>
            obtain ⟨E1, a1, c1, B1, d1, vs1, rfl, rfl, rfl, hr1, hv1, hmap1⟩ := hcut
            rename World => wq
            clear HS
            have E2 := hx.step E1
            have hp2 := hp.to E2
            go_wp2_with fail
            refine (alive_yes _).mono ?_; rintro e w7 ⟨rfl, hx7⟩
            replace hv1 := hv1.to hx7; replace hr1 := hr1.to hx7; replace hp2 := hp2.to hx7
            replace E2 := E2.step hx7
            clear hx7 E1 hx hv hp
            go_wp2_with fail
            go_loopw [9, 64] (fun s j wy => Ext w7 wy ∧ ∃ t : Nat, t ≤ m ∧ j = .int .i64 t ∧ s = .int .i64 (code ((picks.take t).foldl (firstOf N) none))) (fun _ j _ => m - (intOf j).toNat)
            case atStart => exact ⟨Ext.refl _, 0, Nat.zero_le _, rfl, rfl⟩
            case round =>
              obtain ⟨hy, t, htm, rfl, rfl⟩ := hrel
              rename World => wy
              by_cases hlt : t < m
              · obtain ⟨x, hxt⟩ : ∃ x, picks[t]? = some x := ⟨_, List.getElem?_eq_getElem (by omega)⟩
                obtain ⟨pa, rfl⟩ := hp2.some_ (by omega) (by omega)
                have cx := hy.cellOf (hp2.cells t (.int .i64 x) (by simp [Ks, hxt]))
                have HN : Hid ((picks.take (t + 1)).foldl (firstOf N) none = firstOf N ((picks.take t).foldl (firstOf N) none) x) := by
                  show _ = _
                  rw [take_get picks t x hxt, List.foldl_append]
                  rfl
                clear hxt
                generalize (picks.take t).foldl (firstOf N) none = F at HN ⊢
                cases F with
                | some f =>
                  have hc : code (some f) = (f : Int) := rfl
                  have hF : firstOf N (some f) x = some f := by simp [firstOf]
                  rw [hc]
                  clear hc
                  have h1 : decide ((f : Int) < 0) = false := by simp
                  go_wp2_with fail
                  go_roundw
                  case rel => exact ⟨hy, t + 1, by omega, by go_num, by rw [HN.out, hF]; rfl⟩
                  case measure => simp [intOf]; omega
                | none =>
                  have hc : code none = -1 := rfl
                  rw [hc]
                  clear hc
                  by_cases h0 : 0 ≤ x
                  · have h0' : decide (0 ≤ x) = true := by simpa using h0
                    by_cases hxN : x < N
                    · have h1' : decide (x < (N : Int)) = true := by simpa using hxN
                      have hF : firstOf N none x = some x.toNat := by simp [firstOf, h0, hxN]
                      go_wp2_with fail
                      go_roundw
                      case rel => exact ⟨hy, t + 1, by omega, by go_num, by rw [HN.out, hF]; simp only [code]; congr 1; omega⟩
                      case measure => simp [intOf]; omega
                    · have h1' : decide (x < (N : Int)) = false := by simpa using hxN
                      have hF : firstOf N none x = none := by simp [firstOf]; omega
                      go_wp2_with fail
                      go_roundw
                      case rel => exact ⟨hy, t + 1, by omega, by go_num, by rw [HN.out, hF]; rfl⟩
                      case measure => simp [intOf]; omega
                  · have h0' : decide (0 ≤ x) = false := by simpa using h0
                    have hF : firstOf N none x = none := by simp [firstOf]; omega
                    go_wp2_with fail
                    go_roundw
                    case rel => exact ⟨hy, t + 1, by omega, by go_num, by rw [HN.out, hF]; rfl⟩
                    case measure => simp [intOf]; omega
              · have e : picks.take t = picks := List.take_of_length_le (by omega)
                rw [e]
                clear e
                generalize picks.foldl (firstOf N) none = F at HL ⊢
                have HLN : Hid (vs1.length = N) := by
                  show _ = _
                  have := congrArg List.length hmap1.out
                  rw [HL.out.2.1] at this
                  simpa using this
                have hget : ∀ q, q < N → ∃ u, vs1[q]? = some u ∧ ((u.p = lockP ∧ F ≠ some q) ∨ (F.isSome ∧ Went u.p (decide (F = some q)))) := fun q hq => by
                  obtain ⟨p, hp, hc⟩ := HL.out.2.2.2.2 q hq
                  obtain ⟨u, hu⟩ : ∃ u, vs1[q]? = some u := ⟨_, List.getElem?_eq_getElem (by rw [HLN.out]; exact hq)⟩
                  have e : u.p = p := by
                    have e := congrArg (fun l => l[q]?) hmap1.out
                    simp only [List.getElem?_map, hu, hp, Option.map_some, Option.some.injEq] at e
                    exact e
                  exact ⟨u, hu, by rw [e]; exact hc⟩
                have HG := Lib.hid hget
                clear hget
                go_wp2_with fail
                go_loopw [10, 83] (fun s j wz => Ext wy wz ∧ ∃ q : Nat, q ≤ N ∧ j = .int .i64 q ∧ s = .int .i64 (gotOf F q : Nat)) (fun _ j _ => N - (intOf j).toNat)
                case atStart => exact ⟨Ext.refl _, 0, Nat.zero_le _, rfl, by rw [gotOf_zero]; rfl⟩
                case round =>
                  obtain ⟨hz, q, hqN, rfl, rfl⟩ := hrel
                  rename World => wz
                  have hgle := gotOf_le F q
                  by_cases hq : q < N
                  · obtain ⟨u, hu, hc⟩ := HG.out q hq
                    obtain ⟨d1', hd1, q0, q1, q2, q3, q4, q5, q6, q7⟩ := (hv1.to (hy.step hz)).1.eight hu
                    subst hd1
                    clear hu
                    have HGS := Lib.hid (gotOf_step F q)
                    generalize gotOf F q = G at hgle HGS ⊢
                    rcases hc with ⟨hl, hne⟩ | ⟨hs, hw⟩
                    · rw [hl] at q0 q1 q2 q3 q4 q5 q6 q7
                      have h7 : wz.cell? { block := (d1'.add (q * 8)).block, off := (d1'.add (q * 8)).off + 7 } = some (.int .i64 0) := q7
                      clear q7
                      go_wp2_with fail
                      go_roundw
                      case rel => exact ⟨hz.new _, q + 1, by omega, by go_num, by rw [HGS.out, if_neg hne]; rfl⟩
                      case measure => simp [intOf]; omega
                    · obtain ⟨_, ht, _, _, hr0⟩ := hw
                      have htd : decide (0 < u.p.took) = true := by simpa using ht
                      by_cases hF : F = some q
                      · rw [if_pos (by simpa using hF)] at hr0
                        rw [hr0] at q2
                        go_wp2_with fail
                        go_roundw
                        case rel => exact ⟨hz.new _, q + 1, by omega, by go_num, by rw [HGS.out, if_pos hF]; rfl⟩
                        case measure => simp [intOf]; omega
                      · rw [if_neg (by simpa using hF)] at hr0
                        rw [hr0] at q2
                        go_wp2_with fail
                        go_roundw
                        case rel => exact ⟨hz.new _, q + 1, by omega, by go_num, by rw [HGS.out, if_neg hF]; rfl⟩
                        case measure => simp [intOf]; omega
                  · have eq : q = N := by omega
                    subst eq
                    have h5 := hr1.u64 (j := 5) (by omega)
                    rw [HL.out.2.2.1] at h5
                    replace h5 := (hy.step hz).cellOf h5
                    replace h5 : wz.cell? { block := a1.block, off := a1.off + 5 } = _ := h5
                    have HL4 := HL.out.2.2.2.1
                    cases F with
                    | none =>
                      have hg : gotOf none q = 0 := rfl
                      have hc : code none = -1 := rfl
                      rw [hg, hc]
                      clear hg hc
                      have h5' : wz.cell? { block := a1.block, off := a1.off + 5 } = some (.int .u64 0) := h5
                      clear h5 HL4
                      go_wp2_with fail
                      go_ret
                      exact ⟨rfl, (E2.step hy).step hz⟩
                    | some f =>
                      have hf : f < q := HL4 f rfl
                      have hg : gotOf (some f) q = 1 := by simp [gotOf, hf]
                      have hc : code (some f) = (f : Int) := rfl
                      rw [hg, hc]
                      clear hg hc
                      have h5' : wz.cell? { block := a1.block, off := a1.off + 5 } = some (.int .u64 1) := h5
                      obtain ⟨u, hu, hcc⟩ := HG.out f hf
                      obtain ⟨d1', hd1, q0, q1, q2, q3, q4, q5, q6, q7⟩ := (hv1.to (hy.step hz)).1.eight hu
                      subst hd1
                      have hr0 : u.p.rs 0 = 1 := by
                        rcases hcc with ⟨_, hne⟩ | ⟨_, hw⟩
                        · exact absurd rfl hne
                        · simpa using hw.2.2.2.2
                      rw [hr0] at q2
                      clear h5 HL4 hu hcc
                      have h1 : decide ((f : Int) < 0) = false := by simp
                      go_wp2_with fail
                      go_ret
                      exact ⟨rfl, (E2.step hy).step hz⟩

theorem MachineLocks_walk (w : World) (x0 : Int) (_ : (Lit.int .i64 x0).wf = true) (PA : Option Addr) (m k : Nat) (picks : List Int) (hp : Rd w 1 PA m (Ks .i64 picks)) (hmk : m ≤ k) (_ : k ≤ maxLen) (_ : ∀ z ∈ picks, (Lit.int .i64 z).wf = true) :
    Calls Try.prog 8 #[.int .i64 x0, .slice PA m k] w fun e w' => e = .returned (.bool true) ∧ Ext w w' :=
  locks_walk w x0 PA m k picks hp hmk

end Go.Proofs.Yteiabmbfjfaboaa
