/-
  The walk of MachineRuns: what processes come to under any picks.
-/
import Derived.Test.YteiabmbfjfaboaaLawAdds
import Derived.Test.YteiabmbfjfaboaaLawSteps
set_option linter.unusedVariables false
set_option linter.unusedSimpArgs false
namespace Go.Proofs.Yteiabmbfjfaboaa
open Go.RowKit
attribute [local go_sem ↓] Go.wp_at_zero Go.wp_at_succ

theorem pick_out (s : List Int × List Pc) (x : Int) (h : ¬ (0 ≤ x ∧ x < (s.2.length : Int))) : pick s x = s := by
  unfold pick
  by_cases h0 : 0 ≤ x
  · rw [if_pos h0]
    split
    · rename_i hx q hq
      have := (List.getElem?_eq_some_iff.1 hq).1
      omega
    · rfl
  · rw [if_neg h0]
theorem runs_none (s : List Int × List Pc) (l : List Int) (h : s.2 = []) : runs s l = s := by
  induction l with
  | nil => rfl
  | cons x l ih =>
    show runs (pick s x) l = s
    rw [pick_out s x (by rw [h]; simp)]
    exact ih
theorem Only.row {b : Nat} {W W' : World} {B : Option Addr} {vs : List Pv} (h : Only b W W') (hr : Row W B vs) (hB : vs = [] ∨ ∀ q, B = some q → q.block ≠ b) (hF : ∀ v ∈ vs, ∀ q, v.A = some q → q.block ≠ b) : Row W' B vs := by
  rcases hB with rfl | hB
  · exact ⟨Rd.nil _ _ _, by simp⟩
  · exact ⟨h.rd hr.1 hB, fun v hv => h.rd (hr.2 v hv) (hF v hv)⟩
/-- A process in memory with the first 66 instructions of its program. -/
def Pv.cut (v : Pv) : Pv := ⟨v.A, v.c, v.p.cut⟩
theorem prg_old {w : World} {A : Option Addr} {is : List Ins} (h : Prg w A is) (h0 : 0 < is.length) : ∀ q, A = some q → q.block < w.heap.size := fun q hq => by
  obtain ⟨q', hq', hc⟩ := h.2 0 _ (List.getElem?_eq_getElem (by rw [flat_length Ins.cells_length]; omega))
  rw [hq] at hq'
  injection hq' with hq'
  subst hq'
  have := World.block_lt_of_cell? w _ hc
  rwa [addr_block] at this

theorem cut_set (vs : List Pv) (t : Nat) (u : Pv) (h : vs[t]? = some u) : ((vs.take t).map Pv.cut ++ vs.drop t).set t u.cut = (vs.take (t + 1)).map Pv.cut ++ vs.drop (t + 1) := by
  have hl : t < vs.length := (List.getElem?_eq_some_iff.1 h).1
  have hu : vs[t] = u := (List.getElem?_eq_some_iff.1 h).2
  have e : ((vs.take t).map Pv.cut).length = t := by simp; omega
  rw [List.drop_eq_getElem_cons hl, List.set_append_right _ _ (by omega), e, Nat.sub_self, List.set_cons_zero, take_get vs t u h, List.map_append, List.append_assoc]
  rfl
theorem OwnS.mk {W : World} {base n c : Nat} {A : Option Addr} {vs : List Pv} (h : W.ownsRow base 27 8 (.slice A n c) n (flat Pv.cells vs)) (hn : vs.length = n)
    (hp : ∀ v ∈ vs, Prg W v.A v.p.prog ∧ ∀ q, v.A = some q → 0 < v.p.prog.length → q.block < base) : OwnS W base A vs := by
  by_cases h0 : 0 < n
  · obtain ⟨g, cap, he, hb, hlt⟩ := h.form h0
    injection he with h1 _ h3
    subst h1 h3
    refine .inr ⟨g, rfl, hb, hlt, fun i v hv j hj => ?_, h.frozenAt, fun v hv => ⟨(hp v hv).1, fun q hq hl => ?_⟩⟩
    · have hi := (List.getElem?_eq_some_iff.1 hv).1
      rw [h.cellAt _ (by omega)]
      exact flat_get Pv.cells_length vs i j v hv hj
    · have := (hp v hv).2 q hq hl
      omega
  · exact .inl (List.eq_nil_of_length_eq_zero (by omega))

set_option maxRecDepth 100000 in
set_option maxHeartbeats 4000000 in
theorem runs_walk (w : World) (A : Option Addr) (n c : Nat) (zs : List Int) (h : Rd w 1 A n (Us zs)) (B : Option Addr) (nl cl : Nat) (L : List Pv) (hL : Row w B L) (hLn : L.length = nl) (hnc : nl ≤ cl) (hcap : ∀ u ∈ L, u.p.prog.length ≤ u.c)
    (PA : Option Addr) (m0 k : Nat) (picks0 : List Int) (hp0 : Rd w 1 PA m0 (Ks .i64 picks0)) (hmk : m0 ≤ k) :
    Calls Try.prog 4 #[.slice A n c, .slice B nl cl, .slice PA m0 k] w fun e w' => e = .returned (.bool true) ∧ Ext w w' := by
  obtain ⟨i0, hi0, hz0, hz1, hz2⟩ := info_parts proc_info
  obtain ⟨N, hN⟩ : ∃ N : Nat, N = min nl 9 := ⟨_, rfl⟩
  have hN9 : N ≤ 9 := by omega
  have HN := Lib.hid hN
  have hv0 : Rd w 8 B N (flat Pv.cells (L.take N)) := by
    have := hL.1.take (k := N) (by omega)
    rwa [flat_take Pv.cells_length] at this
  have hvp : ∀ u ∈ L.take N, Prg w u.A u.p.prog ∧ u.p.prog.length ≤ u.c := fun u hu => ⟨hL.2 u (List.mem_of_mem_take hu), hcap u (List.mem_of_mem_take hu)⟩
  have hvl : (L.take N).length = N := by simp; omega
  generalize L.take N = vs at hv0 hvp hvl
  have HV := Lib.hid hvl
  clear hL hN hcap
  go_enter Try.func4, Try.ntmps4
  go_wp2_with fail
  refine (words_is A n c zs _ h).mono ?_; rintro e w1 ⟨g, rfl, hg, hr1, hx1⟩
  have E1 := hx1
  go_upto_region 2 with fail
  go_cut [1] (fun s wx => ∃ B1 c1, s = .slice B1 N c1 ∧ Ext w1 wx ∧ OwnS wx w1.heap.size B1 vs)
  case first =>
    have ho : ∀ (u : Unit), (w1.alloc (.cells #[] 27)).ownsRow w1.heap.size 27 8 (.slice (some ⟨w1.heap.size, 0, none⟩) 0 0) 0 [] := fun _ => World.ownsRow_lit w1 #[] 0 (Nat.le_refl _) (by simp only [maxLen]; omega) rfl
    have hr : Rd (w1.alloc (.cells #[] 27)) 8 B N (flat Pv.cells vs) := (hv0.to E1).to ((Ext.refl _).new _)
    by_cases hc : nl ≤ 9
    · obtain rfl : nl = N := by have := HN.out; omega
      go_wp2_with (first
        | (at_builtin
           refine wpList_append_rd _ rfl (.tmp 18) (.tmp 23) _ rfl w1.heap.size 27 i0 _ 8 80 Try.underlying34 hi0 hz0 hz1 hz2 rfl (by omega) (.slice (some ⟨w1.heap.size, 0, none⟩) 0 0) 0 [] rfl (ho ()) B nl cl (flat Pv.cells vs) rfl hr (flat_one Pv.cells_one vs) (by simp only [maxLen]; omega) (by omega) (by simp) ?_
           intro v1 w2 hown2 hg2 hat2))
      all_goals
        obtain ⟨vA, vc, rfl⟩ := own_slice hown2
        simp only [Nat.zero_add, List.nil_append] at hown2
        have E2 := own_back ((Ext.refl w1).new (.cells #[] 27)) (by simp) hg2 (fun q hq => ((ho ()).lt q hq).1)
        go_meet
        case rel => exact ⟨vA, vc, by simp, E2, OwnS.mk hown2 HV.out (fun v hv => ⟨((hvp v hv).1.to E1).to E2, fun q hq hl => prg_old ((hvp v hv).1.to E1) hl q hq⟩)⟩
    · obtain rfl : N = 9 := by have := HN.out; omega
      go_wp2_with (first
        | (at_builtin
           refine wpList_append_rd _ rfl (.tmp 18) (.tmp 23) _ rfl w1.heap.size 27 i0 _ 8 80 Try.underlying34 hi0 hz0 hz1 hz2 rfl (by omega) (.slice (some ⟨w1.heap.size, 0, none⟩) 0 0) 0 [] rfl (ho ()) B 9 cl (flat Pv.cells vs) rfl hr (flat_one Pv.cells_one vs) (by simp only [maxLen]; omega) (by omega) (by simp) ?_
           intro v1 w2 hown2 hg2 hat2))
      all_goals
        obtain ⟨vA, vc, rfl⟩ := own_slice hown2
        simp only [Nat.zero_add, List.nil_append] at hown2
        have E2 := own_back ((Ext.refl w1).new (.cells #[] 27)) (by simp) hg2 (fun q hq => ((ho ()).lt q hq).1)
        go_meet
        case rel => exact ⟨vA, vc, by simp, E2, OwnS.mk hown2 HV.out (fun v hv => ⟨((hvp v hv).1.to E1).to E2, fun q hq hl => prg_old ((hvp v hv).1.to E1) hl q hq⟩)⟩
  case rest =>
    obtain ⟨B1, c1, rfl, E2, hO⟩ := hcut
    rename World => w2
    have E12 := E1.step E2
    have hlt := E1.size
    clear hv0
    have HVP := Lib.hid hvp
    clear hvp
    go_wp2_with fail
    go_loopw [27] (fun j wr => Ext w1 wr ∧ ∃ (t : Nat) (us : List Pv), t ≤ N ∧ j = .int .i64 t ∧ OwnS wr w1.heap.size B1 us ∧ us.length = N ∧ Hid (us = (vs.take t).map Pv.cut ++ vs.drop t)) (fun j _ => N - (intOf j).toNat)
    case atStart => exact ⟨E2, 0, vs, Nat.zero_le _, rfl, hO, HV.out, by show _ = _; simp⟩
    case round =>
      obtain ⟨hx, t, us, htN, rfl, hO, hun, HU⟩ := hrel
      rename World => wr
      by_cases hlt' : t < N
      · rcases hO with rfl | ⟨gb, rfl, hgb, hO⟩
        · simp at hun; omega
        obtain ⟨u, hu⟩ : ∃ u, vs[t]? = some u := ⟨_, List.getElem?_eq_getElem (by rw [HV.out]; exact hlt')⟩
        have huu : us[t]? = some u := by
          rw [HU.out, List.getElem?_append_right (by simp; omega)]
          simp
          rw [show min t vs.length = t by have := HV.out; omega]
          simpa using hu
        obtain ⟨q0, q1, q2, q3, q4, q5, q6, q7⟩ := hO.at huu
        have hcapu := (HVP.out u (List.mem_of_getElem? hu)).2
        have HF := Lib.hid (fun W => few_is u.A u.c u.p W hcapu)
        have HUU := Lib.hid huu
        have HU0 := Lib.hid hu
        clear huu hu
        go_wp2_with fail
        refine (HF.out _).mono ?_; rintro e w3 ⟨rfl, hx3⟩
        have f3 := ((Ext.refl wr).new _).step hx3
        replace hO := hO.to f3
        obtain ⟨q0, q1, q2, q3, q4, q5, q6, q7⟩ := hO.at HUU.out
        have fr := hO.free
        have hprg := hO.prg u (List.mem_of_getElem? HUU.out)
        go_wp2_with fail
        go_roundw
        case rel =>
          refine ⟨?_, t + 1, us.set t u.cut, by omega, by go_num, .inr ⟨gb, rfl, hgb, hO.puts (by omega) u.cut (Prg.cut hprg.1) (fun q hq h0 => hprg.2 q hq (by
            have h1 : 0 < u.p.cut.prog.length := h0
            simp [Pc.cut] at h1
            omega))⟩, by simp [hun], ?_⟩
          · repeat (first | with_reducible refine Ext.set ?_ _ (by omega))
            exact hx.step f3
          · show _ = _
            rw [HU.out]
            exact cut_set vs t u HU0.out
        case measure => simp [intOf]; omega
      · have hus : Hid (us = vs.map Pv.cut) := by
          show _ = _
          have e : t = vs.length := by have := HV.out; omega
          rw [HU.out, e, List.take_length, List.drop_length, List.append_nil]
        have h66 : ∀ u ∈ us, u.p.prog.length ≤ 66 := fun u hu => by
          rw [hus.out] at hu
          obtain ⟨y, _, rfl⟩ := List.mem_map.1 hu
          simp [Pv.cut, Pc.cut]
          omega
        have H66 := Lib.hid h66
        clear h66 HU hus
        obtain ⟨m, hm⟩ : ∃ m : Nat, m = min m0 300 := ⟨_, rfl⟩
        have HMM := Lib.hid hm
        have hm300 : m ≤ 300 := by omega
        have hp := ints_take hp0 (k := m) (by omega)
        clear hm
        go_upto_region 8 with fail
        go_cut [2] (fun s wx => s = .slice PA m k ∧ wr = wx)
        case first =>
          by_cases hc : m0 ≤ 300
          · obtain rfl : m0 = m := by have := HMM.out; omega
            go_wp2_with fail
            all_goals (go_meet; case rel => exact ⟨rfl, rfl⟩)
          · obtain rfl : m = 300 := by have := HMM.out; omega
            go_wp2_with fail
            all_goals (go_meet; case rel => exact ⟨rfl, rfl⟩)
        case rest =>
          obtain ⟨rfl, rfl⟩ := hcut
          have hpl : (picks0.take m).length = m := by
            have := hp.1
            simpa [Ks] using this
          generalize picks0.take m = picks at hp hpl
          clear hp0 HMM
          have hrow := hO.row
          have hrw : Rd wr 1 (some ⟨g, 0, none⟩) 64 (Us (fill zs)) := hr1.to hx
          obtain ⟨b, hb⟩ : ∃ b : Bool, b = true ↔ (N ≤ 8 ∧ ∀ v ∈ us, v.p.May) := by
            by_cases hq : N ≤ 8 ∧ ∀ v ∈ us, v.p.May
            · exact ⟨true, by simp only [true_iff]; exact hq⟩
            · exact ⟨false, by simp only [Bool.false_eq_true, false_iff]; exact hq⟩
          have HB := Lib.hid hb
          clear hb
          have E3 := E1.step hx
          have hp3 := hp.to E3
          obtain ⟨S, hS⟩ : ∃ S : List Int × List Pc, S = (fill zs, us.map (·.p)) := ⟨_, rfl⟩
          have HSS := Lib.hid hS
          have HRun : b = true → Calls Try.prog 19 #[.slice (some ⟨g, 0, none⟩) 64 64, .slice B1 N c1, .slice PA m k] wr (Ran wr N (runs S picks)) := fun hbt => by
            obtain ⟨h8, hmay⟩ := HB.out.1 hbt
            exact run_by ⟨g, 0, none⟩ 64 (fill zs) B1 N c1 us PA m k picks wr hrw hrow hun h8 hmay hp3 (by omega) S hS
          have HNo : b = false → Calls Try.prog 19 #[.slice (some ⟨g, 0, none⟩) 64 64, .slice B1 N c1, .slice PA m k] wr fun e w' => e = .returned (.tuple #[.slice none 0 0, .slice none 0 0, .int .i64 1]) ∧ Ext wr w' := fun hbf =>
            run_no (some ⟨g, 0, none⟩) B1 PA N 64 64 c1 m k wr b (right_is B1 N c1 us wr hrow hun b HB.out) (by rw [hbf]; simp)
          have HR1 := Lib.hid HRun
          have HR2 := Lib.hid HNo
          clear HRun HNo hS
          generalize hR : runs S picks = R at HR1
          have HRR := Lib.hid hR
          clear hR
          go_upto_region 9 with fail
          go_cut [9, 10, 11] (fun s9 s10 s11 wx => Ext wr wx ∧ ∃ (A9 : Option Addr) (n9 c9 : Nat) (B9 : Option Addr) (k9 d9 : Nat) (e9 : Int), s9 = .slice A9 n9 c9 ∧ s10 = .slice B9 k9 d9 ∧ s11 = .int .i64 e9 ∧
            Hid ((b = true ∧ n9 = 64 ∧ k9 = N ∧ e9 = 0 ∧ Rd wx 1 A9 64 (Us R.1) ∧ (∀ q, A9 = some q → wr.heap.size ≤ q.block) ∧ ∃ vs9, Row wx B9 vs9 ∧ vs9.map (·.p) = R.2 ∧ Fresh wr.heap.size vs9 ∧ (vs9 = [] ∨ ∀ q, B9 = some q → wr.heap.size ≤ q.block)) ∨ (b = false ∧ n9 = 0 ∧ k9 = 0 ∧ e9 = 1)))
          case first =>
            go_wp2_with fail
            cases b
            · refine (HR2.out (by trivial)).mono ?_; rintro e w4 ⟨rfl, hx4⟩
              go_wp2_with fail
              go_meet
              case rel => exact ⟨hx4, _, _, _, _, _, _, _, rfl, rfl, rfl, .inr ⟨by trivial, rfl, rfl, rfl⟩⟩
            · refine (HR1.out (by trivial)).mono ?_; rintro e w4 ⟨A4, c4, B4, d4, vs4, rfl, hr4, hv4, hmap4, hx4, hfa, hfv, hfb⟩
              go_wp2_with fail
              go_meet
              case rel => exact ⟨hx4, _, _, _, _, _, _, _, rfl, rfl, rfl, .inl ⟨by trivial, rfl, rfl, rfl, hr4, hfa, vs4, hv4, hmap4, hfv, hfb⟩⟩
          case rest =>
            obtain ⟨E4, A9, n9, c9, B9, k9, d9, e9, rfl, rfl, rfl, HC9⟩ := hcut
            rename World => wq
            clear HR1 HR2
            have hrow4 := hrow.to E4
            go_wp2_with fail
            refine (all_is B1 N c1 us _ hrow4 hun (by omega) (fun u hu => by have := H66.out u hu; omega) b HB.out).mono ?_; rintro e w5 ⟨rfl, hx5⟩
            rcases HC9.out with ⟨rfl, rfl, rfl, rfl, hr9, hfa, vs9, hv9, hmap9, hfv, hfb⟩ | ⟨rfl, rfl, rfl, rfl⟩
            · have E5 := (E3.step E4).step hx5
              have hg1 : g < w1.heap.size := by
                have := World.block_lt_of_cell? w1 _ (hr1.u64 (j := 0) (by omega))
                rwa [addr_block] at this
              have hmayS : ∀ p ∈ S.2, p.May := by
                rw [HSS.out]
                intro p hp'
                obtain ⟨u, hu, rfl⟩ := List.mem_map.1 hp'
                exact (HB.out.1 rfl).2 u hu
              have h8 := (HB.out.1 rfl).1
              have hS1 : S.1 = fill zs := by rw [HSS.out]
              have hSm : S.2 = us.map (·.p) := by rw [HSS.out]
              rcases hO with rfl | ⟨gb, rfl, hgb, hO⟩
              · obtain rfl : k9 = 0 := by simpa using hun.symm
                have hRS : R = S := by rw [← HRR.out]; exact runs_none S picks (by rw [hSm]; rfl)
                have hr9' : Rd w5 1 A9 64 (Us (fill zs)) := by rw [hRS, hS1] at hr9; exact hr9.to hx5
                have hrw5 := (hrw.to E4).to hx5
                have hp5 : Rd w5 1 PA m (Ks .i64 picks) := ((hp3.to E4).to hx5)
                clear hrow hrow4 hrw hp3 hr9
                go_wp2_with fail
                go_loopw [0, 69] (fun v j wy => Ext w5 wy ∧ v = .slice (some ⟨g, 0, none⟩) 64 64 ∧ ∃ t : Nat, t ≤ m ∧ j = .int .i64 t) (fun _ j _ => m - (intOf j).toNat)
                case atStart => exact ⟨Ext.refl _, rfl, 0, Nat.zero_le _, rfl⟩
                case round =>
                  obtain ⟨hy, rfl, t, htm, rfl⟩ := hrel
                  rename World => wy
                  by_cases htlt : t < m
                  · obtain ⟨x, hxt⟩ : ∃ x, picks[t]? = some x := ⟨_, List.getElem?_eq_getElem (by omega)⟩
                    obtain ⟨pa, rfl⟩ := hp5.some_ (by omega) (by omega)
                    have cx := hy.cellOf (hp5.cells t (.int .i64 x) (by simp [Ks, hxt]))
                    clear hxt
                    by_cases hx0 : 0 ≤ x
                    · have hx1' : ¬ x < 0 := by omega
                      go_wp2_with fail
                      go_roundw
                      case rel => exact ⟨hy, rfl, t + 1, by omega, by go_num⟩
                      case measure => simp [intOf]; omega
                    · go_wp2_with fail
                      go_roundw
                      case rel => exact ⟨hy, rfl, t + 1, by omega, by go_num⟩
                      case measure => simp [intOf]; omega
                  · have hr9y := hr9'.to hy
                    have hrwy := hrw5.to hy
                    have E6 := E5.step hy
                    go_wp2_with fail
                    refine (same_yes A9 (some ⟨g, 0, none⟩) 64 c9 64 (fill zs) _ hr9y hrwy (by omega)).mono ?_; rintro e w6 ⟨rfl, hx6⟩
                    go_wp2_with fail
                    refine (alive_yes _).mono ?_; rintro e w7 ⟨rfl, hx7⟩
                    have E7 := (E6.step hx6).step hx7
                    go_wp2_with fail
                    go_loopw [116] (fun j wz => w7 = wz ∧ j = .int .i64 0) (fun j _ => 0)
                    case atStart => exact ⟨rfl, rfl⟩
                    case round =>
                      obtain ⟨rfl, rfl⟩ := hrel
                      go_wp2_with fail
                      go_ret
                      exact ⟨rfl, E7⟩
              · have hgr := hO.lt
                have hO5 := (hO.to E4).to hx5
                have hrw5 := (hrw.to E4).to hx5
                have hp5 : Rd w5 1 PA m (Ks .i64 picks) := ((hp3.to E4).to hx5)
                have hpb : ∀ t x, picks[t]? = some x → ∃ pa, PA = some pa ∧ w5.cell? (pa.add t) = some (.int .i64 x) ∧ (pa.add t).block ≠ gb := fun t x hx' => by
                  obtain ⟨pa, h1, h2⟩ := hp.2 t (.int .i64 x) (by simp [Ks, hx'])
                  have h3 := World.block_lt_of_cell? w _ h2
                  have h4 := hx1.size
                  exact ⟨pa, h1, E5.cellOf h2, by omega⟩
                have HPB := Lib.hid hpb
                have HMS := Lib.hid hmayS
                have hR0 : runs S (picks.take 0) = S := rfl
                clear hpb hmayS hrow hrow4 hrw hp3 hO
                go_wp2_with fail
                go_loopw [0, 69] (fun v j wy => Only gb w5 wy ∧ ∃ (t : Nat) (Am : Addr) (cm : Nat) (us' : List Pv), t ≤ m ∧ j = .int .i64 t ∧ v = .slice (some Am) 64 cm ∧ Am.block ≠ gb ∧ Rd wy 1 (some Am) 64 (Us (runs S (picks.take t)).1) ∧ OwnP wy gb us' ∧ us'.length = k9 ∧ Hid (us'.map (·.p) = (runs S (picks.take t)).2)) (fun _ j _ => m - (intOf j).toNat)
                case atStart => exact ⟨Only.refl _ _, 0, _, _, us, Nat.zero_le _, rfl, rfl, by show g ≠ gb; omega, by rw [hR0, hS1]; exact hrw5, hO5, hun, by show _ = _; rw [hR0, hSm]⟩
                case round =>
                  obtain ⟨hy, t, Am, cm, us', htm, rfl, rfl, hAb, hrm, hOm, hum, HUM⟩ := hrel
                  rename World => wy
                  by_cases htlt : t < m
                  · obtain ⟨x, hxt⟩ : ∃ x, picks[t]? = some x := ⟨_, List.getElem?_eq_getElem (by omega)⟩
                    obtain ⟨pa, hpa, hcx, hbx⟩ := HPB.out t x hxt
                    have cx := hy.cellOf hcx hbx
                    have hsn : runs S (picks.take (t + 1)) = pick (runs S (picks.take t)) x := by rw [take_get picks t x hxt, runs_snoc]
                    have HSN := Lib.hid hsn
                    clear hsn hxt hcx hbx
                    subst hpa
                    by_cases hxr : 0 ≤ x ∧ x < (k9 : Int)
                    · obtain ⟨hx0, hxN⟩ := hxr
                      obtain ⟨i, rfl⟩ := Int.eq_ofNat_of_zero_le hx0
                      obtain ⟨u, hu⟩ : ∃ u, us'[i]? = some u := ⟨_, List.getElem?_eq_getElem (by omega)⟩
                      obtain ⟨q0, q1, q2, q3, q4, q5, q6, q7⟩ := hOm.at hu
                      have hprg := hOm.prg u (List.mem_of_getElem? hu)
                      have huM : u.p.May := runs_may _ S HMS.out u.p (by rw [← HUM.out]; exact List.mem_map.2 ⟨u, List.mem_of_getElem? hu, rfl⟩)
                      have HU := Lib.hid hu
                      have HRF := Lib.hid (ref_is Am cm (runs S (picks.take t)).1 u.A u.c u.p wy hrm hprg.1 huM)
                      clear hu huM
                      go_wp2_with fail
                      refine HRF.out.mono ?_; rintro e w6 ⟨A6, c6, rfl, hr6, hx6, hA6⟩
                      have hy6 := hy.ext hx6
                      have hO6 := hOm.to hx6
                      have hA6' : ∀ q, A6 = some q → q.block ≠ gb := fun q hq => by
                        rcases hA6 q hq with rfl | h'
                        · exact hAb
                        · have := hOm.lt
                          omega
                      have hS2 : (pick (runs S (picks.take t)) (i : Int)) = ((stp (runs S (picks.take t)).1 u.p).1, (runs S (picks.take t)).2.set i (stp (runs S (picks.take t)).1 u.p).2) := by
                        refine pick_at _ i u.p ?_
                        rw [← HUM.out, List.getElem?_map, HU.out]
                        rfl
                      rw [hS2] at HSN
                      clear hS2
                      have hpq : (stp (runs S (picks.take t)).1 u.p).2.prog = u.p.prog := stp_prog _ _
                      generalize stp (runs S (picks.take t)).1 u.p = sp at hr6 HSN hpq ⊢
                      obtain ⟨sw, sq⟩ := sp
                      dsimp only at hr6 HSN hpq ⊢
                      obtain ⟨w7, hw7⟩ : ∃ w7, w7 = w6.alloc (.cells #[.slice A6 64 c6, .slice u.A sq.prog.length u.c, .int .i64 sq.at_, .int .u64 (sq.rs 0), .int .u64 (sq.rs 1), .int .u64 (sq.rs 2), .int .u64 (sq.rs 3), .bool sq.done, .int .i64 sq.took] 39) := ⟨_, rfl⟩
                      have hx7 : Ext w6 w7 := by rw [hw7]; exact (Ext.refl _).new _
                      have B7 : Bx w7 w6.heap.size #[.slice A6 64 c6, .slice u.A sq.prog.length u.c, .int .i64 sq.at_, .int .u64 (sq.rs 0), .int .u64 (sq.rs 1), .int .u64 (sq.rs 2), .int .u64 (sq.rs 3), .bool sq.done, .int .i64 sq.took] := by rw [hw7]; exact Bx.new _ _ _
                      have HW7 := Lib.hid hw7
                      have HPQ := Lib.hid hpq
                      clear hw7 hpq
                      go_upto_region 17 with fail
                      rw [← HW7.out]
                      have hy7 := hy6.ext hx7
                      have hO7 := hO6.to hx7
                      have hr7 := hr6.to hx7
                      clear q0 q1 q2 q3 q4 q5 q6 q7
                      obtain ⟨q0, q1, q2, q3, q4, q5, q6, q7⟩ := hO7.at HU.out
                      have fr7 := hO7.free
                      have k7 := B7.cell
                      have lt7 := hO7.lt
                      have hprg7 := ((hprg.1.to hx6).to hx7)
                      go_region
                      go_wp2_with fail
                      obtain ⟨a6, rfl⟩ := hr7.some_ (by omega) (by omega)
                      have hi8 : i < us'.length := (List.getElem?_eq_some_iff.1 HU.out).1
                      have hput := hO7.puts hi8 ⟨u.A, u.c, sq⟩ (by show Prg w7 u.A sq.prog; rw [HPQ.out]; exact hprg7) (fun q hq hl => hprg.2 q hq (by
                        have h1 : 0 < sq.prog.length := hl
                        rwa [HPQ.out] at h1))
                      have hon : Only gb w7 ((w7.setCells gb (i * 8) (Pv.cells ⟨u.A, u.c, sq⟩)).drew) := ((Only.refl gb w7).sets _ _).drew
                      go_roundw
                      case rel =>
                        refine ⟨hy7.trans hon, t + 1, a6, c6, us'.set i ⟨u.A, u.c, sq⟩, by omega, by go_num, rfl, hA6' _ rfl, ?_, hput.to (Ext.refl _).drew, by simp [hum], ?_⟩
                        · rw [HSN.out]
                          exact hon.rd hr7 (fun q hq => hA6' q hq)
                        · show _ = _
                          rw [HSN.out, List.map_set, HUM.out]
                      case measure => simp [intOf]; omega
                    · have hsame : pick (runs S (picks.take t)) x = runs S (picks.take t) := by
                        refine pick_out _ x (fun h' => hxr ?_)
                        have hl : (runs S (picks.take t)).2.length = k9 := by rw [← HUM.out, List.length_map, hum]
                        omega
                      rw [hsame] at HSN
                      clear hsame
                      by_cases hx0 : 0 ≤ x
                      · have hxN : ¬ x < (k9 : Int) := by omega
                        clear hxr
                        go_wp2_with fail
                        go_roundw
                        case rel => exact ⟨hy, t + 1, Am, cm, us', by omega, by go_num, rfl, hAb, by rw [HSN.out]; exact hrm, hOm, hum, by show _ = _; rw [HSN.out]; exact HUM.out⟩
                        case measure => simp [intOf]; omega
                      · clear hxr
                        go_wp2_with fail
                        go_roundw
                        case rel => exact ⟨hy, t + 1, Am, cm, us', by omega, by go_num, rfl, hAb, by rw [HSN.out]; exact hrm, hOm, hum, by show _ = _; rw [HSN.out]; exact HUM.out⟩
                        case measure => simp [intOf]; omega
                  · have htm' : t = m := by omega
                    rw [htm', List.take_of_length_le (by omega), HRR.out] at hrm
                    have HUR : Hid (us'.map (·.p) = R.2) := by
                      show _ = _
                      have := HUM.out
                      rwa [htm', List.take_of_length_le (by omega), HRR.out] at this
                    have hr9y := hy.rd (hr9.to hx5) (fun q hq => by have := hfa q hq; omega)
                    have hv9y : Row wy B9 vs9 := hy.row (hv9.to hx5) (by
                      rcases hfb with h' | h'
                      · exact .inl h'
                      · exact .inr fun q hq => by have := h' q hq; omega) (fun v hv q hq => by have := hfv v hv q hq; omega)
                    have E6 : Ext w wy := hy.new E5 (by have := hx1.size; omega)
                    have H9 : Hid (vs9.length = k9) := by
                      show _ = _
                      have h1 := congrArg List.length hmap9
                      have h2 := congrArg List.length HUR.out
                      simp only [List.length_map] at h1 h2
                      omega
                    have HM9 := Lib.hid hmap9
                    clear HUM htm' hmap9 hfa hfb hfv hv9 hr9 hrw5 hO5
                    go_wp2_with fail
                    refine (same_yes A9 (some Am) 64 c9 cm _ _ hr9y hrm (by omega)).mono ?_; rintro e w6 ⟨rfl, hx6⟩
                    go_wp2_with fail
                    refine (alive_yes _).mono ?_; rintro e w7 ⟨rfl, hx7⟩
                    have E7 := (E6.step hx6).step hx7
                    have hv7 := (hv9y.to hx6).to hx7
                    have hO7 := (hOm.to hx6).to hx7
                    clear hv9y hOm hr9y hrm
                    go_wp2_with fail
                    go_loopw [116] (fun j wz => Ext w7 wz ∧ ∃ q : Nat, q ≤ k9 ∧ j = .int .i64 q) (fun j _ => k9 - (intOf j).toNat)
                    case atStart => exact ⟨Ext.refl _, 0, Nat.zero_le _, rfl⟩
                    case round =>
                      obtain ⟨hz, q, hq, rfl⟩ := hrel
                      rename World => wz
                      by_cases hqv : q < k9
                      · obtain ⟨u1, hu1⟩ : ∃ u, vs9[q]? = some u := ⟨_, List.getElem?_eq_getElem (by rw [H9.out]; exact hqv)⟩
                        obtain ⟨u3, hu3⟩ : ∃ u, us'[q]? = some u := ⟨_, List.getElem?_eq_getElem (by rw [hum]; exact hqv)⟩
                        have hpp : u1.p = u3.p := by
                          have e1 : (vs9.map (·.p))[q]? = some u1.p := by rw [List.getElem?_map, hu1]; rfl
                          have e3 : (us'.map (·.p))[q]? = some u3.p := by rw [List.getElem?_map, hu3]; rfl
                          rw [HM9.out] at e1
                          rw [HUR.out, e1] at e3
                          exact Option.some.inj e3
                        have hmay1 : u1.p.May := by
                          have h1 : u1.p ∈ vs9.map (·.p) := List.mem_map.2 ⟨u1, List.mem_of_getElem? hu1, rfl⟩
                          rw [HM9.out, ← HRR.out] at h1
                          exact runs_may _ S HMS.out _ h1
                        have hpr1 := (hv7.to hz).2 u1 (List.mem_of_getElem? hu1)
                        have hpr3 := ((hO7.to hz).prg u3 (List.mem_of_getElem? hu3)).1
                        obtain ⟨d1', rfl, g0, g1, g2, g3, g4, g5, g6, g7⟩ := (hv7.to hz).1.eight hu1
                        obtain ⟨q0, q1, q2, q3, q4, q5, q6, q7⟩ := (hO7.to hz).at hu3
                        obtain ⟨B, cB, pB⟩ := u3
                        dsimp only at hpp hpr3 q0 q1 q2 q3 q4 q5 q6 q7
                        subst hpp
                        have HL := Lib.hid (fun (W : World) (hW : Ext wz W) => like_yes u1.A B u1.c cB u1.p W (hpr1.to hW) (hpr3.to hW) (by have := hmay1.1; omega))
                        clear hu1 hu3
                        go_wp2_with fail
                        go_region_held3 (fun w' => w'.cell? (d1'.add (q * 8)) = some (.slice u1.A u1.p.prog.length u1.c) ∧ w'.cell? { block := (d1'.add (q * 8)).block, off := (d1'.add (q * 8)).off + 1 } = some (.int .i64 u1.p.at_) ∧ w'.cell? { block := (d1'.add (q * 8)).block, off := (d1'.add (q * 8)).off + 2 } = some (.int .u64 (u1.p.rs 0)) ∧ w'.cell? { block := (d1'.add (q * 8)).block, off := (d1'.add (q * 8)).off + 3 } = some (.int .u64 (u1.p.rs 1)) ∧ w'.cell? { block := (d1'.add (q * 8)).block, off := (d1'.add (q * 8)).off + 4 } = some (.int .u64 (u1.p.rs 2)) ∧ w'.cell? { block := (d1'.add (q * 8)).block, off := (d1'.add (q * 8)).off + 5 } = some (.int .u64 (u1.p.rs 3)) ∧ w'.cell? { block := (d1'.add (q * 8)).block, off := (d1'.add (q * 8)).off + 6 } = some (.bool u1.p.done) ∧ w'.cell? { block := (d1'.add (q * 8)).block, off := (d1'.add (q * 8)).off + 7 } = some (.int .i64 u1.p.took) ∧ w'.cell? ⟨gb, q * 8, none⟩ = some (.slice B u1.p.prog.length cB) ∧ w'.cell? ⟨gb, q * 8 + 1, none⟩ = some (.int .i64 u1.p.at_) ∧ w'.cell? ⟨gb, q * 8 + 2, none⟩ = some (.int .u64 (u1.p.rs 0)) ∧ w'.cell? ⟨gb, q * 8 + 3, none⟩ = some (.int .u64 (u1.p.rs 1)) ∧ w'.cell? ⟨gb, q * 8 + 4, none⟩ = some (.int .u64 (u1.p.rs 2)) ∧ w'.cell? ⟨gb, q * 8 + 5, none⟩ = some (.int .u64 (u1.p.rs 3)) ∧ w'.cell? ⟨gb, q * 8 + 6, none⟩ = some (.bool u1.p.done) ∧ w'.cell? ⟨gb, q * 8 + 7, none⟩ = some (.int .i64 u1.p.took)) (first | go_keep | ((repeat' apply And.intro) <;> (exact Ext.cellOf hx8 (by assumption))))
                          (first | (go_at_call 16; refine (HL.out _ (Ext.refl wz).drew).mono ?_; rintro e w8 ⟨rfl, hx8⟩))
                        all_goals go_wp2_with fail
                        all_goals go_roundw
                        all_goals first
                          | (case rel => exact ⟨hz.step hx8.undrew, q + 1, by omega, by go_num⟩)
                          | skip
                        all_goals (simp [intOf]; omega)
                      · go_wp2_with fail
                        go_ret
                        exact ⟨rfl, E7.step hz⟩
            · go_wp2_with fail
              refine (alive_yes _).mono ?_; rintro e w6 ⟨rfl, hx6⟩
              go_wp2_with fail
              go_ret
              exact ⟨rfl, ((E3.step E4).step hx5).step hx6⟩

theorem MachineRuns_walk (w : World) (A : Option Addr) (n c : Nat) (zs : List Int) (h : Rd w 1 A n (Us zs)) (_ : n ≤ c) (_ : c ≤ maxLen) (_ : ∀ z ∈ zs, (Lit.int .u64 z).wf = true)
    (B : Option Addr) (nl cl : Nat) (L : List Pv) (hL : Row w B L) (hLn : L.length = nl) (hnc : nl ≤ cl) (_ : cl ≤ maxLen) (hcap : ∀ u ∈ L, u.p.prog.length ≤ u.c)
    (PA : Option Addr) (m k : Nat) (picks : List Int) (hp : Rd w 1 PA m (Ks .i64 picks)) (hmk : m ≤ k) (_ : k ≤ maxLen) (_ : ∀ z ∈ picks, (Lit.int .i64 z).wf = true) :
    Calls Try.prog 4 #[.slice A n c, .slice B nl cl, .slice PA m k] w fun e w' => e = .returned (.bool true) ∧ Ext w w' :=
  runs_walk w A n c zs h B nl cl L hL hLn hnc hcap PA m k picks hp hmk

end Go.Proofs.Yteiabmbfjfaboaa
