/-
  The walk of MachineApart: a process beside others that work with other words comes to what it comes to alone.
-/
import Derived.Test.YteiabmbfjfaboaaOwnI
import Derived.Test.YteiabmbfjfaboaaBeside
import Derived.Test.YteiabmbfjfaboaaLawEnds
import Derived.Test.YteiabmbfjfaboaaLawSteps
set_option linter.unusedVariables false
set_option linter.unusedSimpArgs false
namespace Go.Proofs.Yteiabmbfjfaboaa
open Go.RowKit
attribute [local go_sem ↓] Go.wp_at_zero Go.wp_at_succ

set_option maxRecDepth 100000 in
set_option maxHeartbeats 4000000 in
theorem apart_walk (w : World) (A0 : Option Addr) (c0 : Nat) (p0 : Pc) (hp0 : Prg w A0 p0.prog) (hd : p0.prog.length ≤ c0) (A : Option Addr) (n c : Nat) (many : List Int) (h : Rd w 1 A n (Ks .i64 many)) (hn0 : n ≤ maxLen)
    (PA : Option Addr) (m0 k : Nat) (picks0 : List Int) (hpk0 : Rd w 1 PA m0 (Ks .i64 picks0)) (hmk : m0 ≤ k) :
    Calls Try.prog 6 #[.agg #[.slice A0 p0.prog.length c0, .int .i64 p0.at_, .int .u64 (p0.rs 0), .int .u64 (p0.rs 1), .int .u64 (p0.rs 2), .int .u64 (p0.rs 3), .bool p0.done, .int .i64 p0.took], .slice A n c, .slice PA m0 k] w fun e w' => e = .returned (.bool true) ∧ Ext w w' := by
  obtain ⟨j0, hj0, hjz0, hjz1, hjz2⟩ := info_parts instr_info
  obtain ⟨i0, hi0, hz0, hz1, hz2⟩ := info_parts proc_info
  obtain ⟨s0, hs0, hsz0, hsz1, hsz2⟩ := info_parts int_info
  have hnl : many.length = n := by have := h.1; simpa [Ks] using this
  have hn : n ≤ 9223372036854775807 := by have := hn0; simp only [maxLen] at this; omega
  clear hn0
  have HF := Lib.hid (fun W => few_is A0 c0 p0 W hd)
  have hpl : p0.cut.prog.length ≤ 66 := by simp [Pc.cut]; omega
  have hdl : p0.cut.prog.length ≤ c0 := by simp [Pc.cut]; omega
  have hp1 := hp0.cut
  generalize p0.cut = p at HF hpl hp1 hdl
  clear hd hp0
  go_enter Try.func6, Try.ntmps6
  go_upto_region 1 with fail
  go_cut [3] (fun s wx => s = .pointer (some ⟨w.heap.size, 0, none⟩) ∧ Ext w wx ∧ Bx wx w.heap.size #[.slice A0 p.prog.length c0, .int .i64 p.at_, .int .u64 (p.rs 0), .int .u64 (p.rs 1), .int .u64 (p.rs 2), .int .u64 (p.rs 3), .bool p.done, .int .i64 p.took])
  case first =>
    go_wp2_with fail
    refine (HF.out _).mono ?_; rintro e w1 ⟨rfl, hx1⟩
    have B1 := Bx.fresh hx1
    have E1 := ((Ext.refl w).new _).step hx1
    have k1 := B1.cell; have f1 := B1.free
    go_wp2_with fail
    go_meet
    case rel => exact ⟨rfl, ext_sets E1 (Nat.le_refl _) (Pv.cells ⟨A0, c0, p⟩), B1.sets (Pv.cells ⟨A0, c0, p⟩) rfl⟩
  case rest =>
    obtain ⟨rfl, E1, B1⟩ := hcut
    rename World => w1
    clear HF
    have hlt1 := E1.size
    have hb1 := B1.lt
    go_upto_region 2 with fail
    go_cut [3] (fun s wx => s = .pointer (some ⟨w.heap.size, 0, none⟩) ∧ ∃ A2 c2, Ext w wx ∧ Bx wx w.heap.size #[.slice A2 p.prog.length c2, .int .i64 p.at_, .int .u64 (p.rs 0), .int .u64 (p.rs 1), .int .u64 (p.rs 2), .int .u64 (p.rs 3), .bool p.done, .int .i64 p.took] ∧ OwnJ wx w1.heap.size A2 p.prog)
    case first =>
      have ho : ∀ (u : Unit), (w1.alloc (.cells #[] 50)).ownsRow w1.heap.size 50 5 (.slice (some ⟨w1.heap.size, 0, none⟩) 0 0) 0 [] := fun _ => World.ownsRow_lit w1 #[] 0 (Nat.le_refl _) (by simp only [maxLen]; omega) rfl
      have hr : Rd (w1.alloc (.cells #[] 50)) 5 A0 p.prog.length (flat Ins.cells p.prog) := (hp1.to E1).to ((Ext.refl _).new _)
      have k1 := (B1.alloc (.cells #[] 50)).cell
      go_wp2_with (first
        | (at_builtin
           refine wpList_append_rd _ rfl (.tmp 22) (.tmp 24) _ rfl w1.heap.size 50 j0 _ 5 40 Try.underlying23 hj0 hjz0 hjz1 hjz2 rfl (by omega) (.slice (some ⟨w1.heap.size, 0, none⟩) 0 0) 0 [] rfl (ho ()) A0 p.prog.length c0 (flat Ins.cells p.prog) rfl hr (flat_one Ins.cells_one p.prog) (by simp only [maxLen]; omega) (by omega) (by simp) ?_
           intro v1 w2 hown2 hg2 hat2
           have E2 := own_back ((Ext.refl w1).new (.cells #[] 50)) (by simp) hg2 (fun q hq => ((ho ()).lt q hq).1)
           obtain ⟨vA, vc, rfl⟩ := own_slice hown2
           simp only [Nat.zero_add, List.nil_append] at hown2
           have B2 := B1.to E2
           have k2 := B2.cell
           have f2 := B2.free))
      all_goals
        go_meet
        case rel =>
          refine ⟨rfl, vA, vc, (E1.step E2).set _ (Nat.le_refl _), ?_, ?_⟩
          · have := B2.field 0 (by simp) (.slice vA p.prog.length vc)
            simpa using this
          · rcases OwnJ.mk hown2 rfl with h' | ⟨g, rfl, hg, hO⟩
            · exact .inl h'
            · exact .inr ⟨g, rfl, hg, hO.only ((Only.refl _ _).set 0 _) (by omega)⟩
    case rest =>
      obtain ⟨rfl, A2, c2, E2, B2, hJ⟩ := hcut
      rename World => w2
      have k2 := B2.cell
      go_wp2_with fail
      go_loopw [30] (fun j wr => Ext w wr ∧ Bx wr w.heap.size #[.slice A2 p.prog.length c2, .int .i64 p.at_, .int .u64 (p.rs 0), .int .u64 (p.rs 1), .int .u64 (p.rs 2), .int .u64 (p.rs 3), .bool p.done, .int .i64 p.took] ∧ ∃ t : Nat, t ≤ p.prog.length ∧ j = .int .i64 t ∧ OwnJ wr w1.heap.size A2 ((p.prog.take t).map Ins.one ++ p.prog.drop t)) (fun j _ => p.prog.length - (intOf j).toNat)
      case atStart => exact ⟨E2, B2, 0, Nat.zero_le _, rfl, by simpa using hJ⟩
      case round =>
        obtain ⟨hx, Bt, t, htn, rfl, hJt⟩ := hrel
        rename World => wr
        clear k2
        have kt := Bt.cell
        by_cases hlt : t < p.prog.length
        · obtain ⟨x, hxt⟩ : ∃ x, p.prog[t]? = some x := ⟨_, List.getElem?_eq_getElem hlt⟩
          have hxx : ((p.prog.take t).map Ins.one ++ p.prog.drop t)[t]? = some x := by
            rw [List.getElem?_append_right (by simp; omega)]
            simp
            rw [show min t p.prog.length = t by omega]
            simpa using hxt
          rcases hJt with h' | ⟨g, rfl, hg, hO⟩
          · rw [h'] at hxx; simp at hxx
          have q2 := hO.cell t x hxx 2 (by omega)
          have f2 := hO.free (t * 5 + 2)
          have z2 := hO.lt
          have HX := Lib.hid hxt
          have HXX := Lib.hid hxx
          clear hxt hxx
          go_wp2_with fail
          go_roundw
          case rel =>
            exact ⟨hx.set _ (by omega), ((Only.refl g wr).set _ _).bx Bt (by omega), t + 1, by omega, by go_num, .inr ⟨g, rfl, hg, by rw [← one_set p.prog t x HX.out]; exact hO.one HXX.out⟩⟩
          case measure => simp [intOf]; omega
        · have htn' : t = p.prog.length := by omega
          rw [htn', List.take_length, List.drop_length, List.append_nil] at hJt
          obtain ⟨q, hq⟩ : ∃ q : Pc, q = ⟨p.prog.map Ins.one, p.at_, p.rs, p.done, p.took⟩ := ⟨_, rfl⟩
          have hql : q.prog.length = p.prog.length := by rw [hq]; simp
          have hq1 : ∀ x ∈ q.prog, x.i = 1 := by
            rw [hq]
            intro x hx'
            obtain ⟨y, _, rfl⟩ := List.mem_map.1 hx'
            rfl
          have Bq : Bx wr w.heap.size #[.slice A2 q.prog.length c2, .int .i64 q.at_, .int .u64 (q.rs 0), .int .u64 (q.rs 1), .int .u64 (q.rs 2), .int .u64 (q.rs 3), .bool q.done, .int .i64 q.took] := by rw [hql, hq]; exact Bt
          have hprg : Prg wr A2 q.prog := by rw [hq]; exact hJt.prg
          have hq66 : q.prog.length ≤ 66 := by omega
          have hlo : ∀ d, A2 = some d → 0 < q.prog.length → d.block < wr.heap.size := fun d hd h0 => by
            rcases hJt with h' | ⟨g, rfl, hg, hO⟩
            · rw [hql, ← List.length_map (f := Ins.one), h'] at h0
              simp at h0
            · obtain rfl := Option.some.inj hd
              exact hO.lt
          have HLO := Lib.hid hlo
          have HQ1 := Lib.hid hq1
          clear kt Bt hJt hq hql hq1 hlo htn' hp1 hdl hpl
          have kq := Bq.cell
          obtain ⟨b, hb⟩ : ∃ b : Bool, b = true ↔ q.May := by
            by_cases hm' : q.May
            · exact ⟨true, by simp only [true_iff]; exact hm'⟩
            · exact ⟨false, by simp only [Bool.false_eq_true, false_iff]; exact hm'⟩
          have HB := Lib.hid hb
          clear hb
          go_wp2_with fail
          refine (may_is A2 c2 q _ hprg (by omega) b HB.out).mono ?_; rintro e w4 ⟨rfl, hx4⟩
          have E4 := hx.step hx4
          replace Bq := Bq.to hx4
          replace hprg := hprg.to hx4
          replace HLO := Lib.hid (fun d hd h0 => Nat.lt_of_lt_of_le (HLO.out d hd h0) hx4.size)
          clear kq
          have kq := Bq.cell
          cases b
          · go_wp2_with fail
            refine (alive_yes _).mono ?_; rintro e w5 ⟨rfl, hx5⟩
            go_wp2_with fail
            go_ret
            exact ⟨rfl, E4.step hx5⟩
          · have hmay := HB.out.1 rfl
            have HM := Lib.hid hmay
            have hq0 : 0 < q.prog.length := hmay.1.1
            clear hmay HB hx hx4
            go_upto_region 11 with fail
            obtain ⟨w5, hw5⟩ : ∃ w5, w5 = w4.alloc (.cells #[.slice A2 q.prog.length c2, .int .i64 q.at_, .int .u64 (q.rs 0), .int .u64 (q.rs 1), .int .u64 (q.rs 2), .int .u64 (q.rs 3), .bool q.done, .int .i64 q.took] 27) := ⟨_, rfl⟩
            have hPR : PRow w5 w.heap.size (.slice (some ⟨w4.heap.size, 0, none⟩) 1 1) [⟨A2, c2, q⟩] := by
              rw [hw5]
              refine ⟨World.ownsRow_lit w4 #[.slice A2 q.prog.length c2, .int .i64 q.at_, .int .u64 (q.rs 0), .int .u64 (q.rs 1), .int .u64 (q.rs 2), .int .u64 (q.rs 3), .bool q.done, .int .i64 q.took] 1 E4.size (by simp only [maxLen]; omega) rfl, fun u hu => ?_⟩
              obtain rfl := List.mem_singleton.1 hu
              refine ⟨hq0, hprg.to ((Ext.refl _).new _), fun d hd e => ?_⟩
              have h1 := HLO.out d hd hq0
              have h2 : w4.heap.size = d.block := by
                have := Option.some.inj e
                exact this
              omega
            have E5 : Ext w w5 := by rw [hw5]; exact E4.new _
            rw [← hw5]
            clear kq Bq hprg HLO hw5
            have hseen : ∀ a r : Nat, 2 ≤ a → a ≤ 8 → r < 6 → ∃ a' n', (addsP (a : Int) r).prog = (addsP a' n').prog ∧ 2 ≤ a' := fun a r h2 _ _ => ⟨_, _, rfl, by omega⟩
            clear hseen
            go_wp2_with fail
            go_loopw [8, 47] (fun v j wr => Ext w wr ∧ ∃ (t : Nat) (L : List Pv), t ≤ n ∧ j = .int .i64 t ∧ PRow wr w.heap.size v L ∧ Hid (L.length = min t 7 + 1) ∧ Hid (L[0]? = some ⟨A2, c2, q⟩) ∧ Hid (∀ i u, 0 < i → L[i]? = some u → ∃ a r : Nat, 2 ≤ a ∧ a ≤ 8 ∧ r < 6 ∧ u.p = addsP (a : Int) r)) (fun _ j _ => n - (intOf j).toNat)
            case atStart => exact ⟨E5, 0, [⟨A2, c2, q⟩], Nat.zero_le _, rfl, hPR, rfl, rfl, fun i u hi hu => by
              rw [List.getElem?_eq_none (by simp; omega)] at hu
              cases hu⟩
            case round =>
              obtain ⟨hx, t, L, htn, rfl, hrow, HC, HL0, HLL⟩ := hrel
              rename World => wr
              obtain ⟨vA, vc, rfl⟩ := own_slice hrow.1
              by_cases hlt : t < n
              · obtain ⟨ad, rfl⟩ := h.some_ (by omega) (by omega)
                obtain ⟨x, hxt⟩ : ∃ x, many[t]? = some x := ⟨_, List.getElem?_eq_getElem (by omega)⟩
                have cx := hx.cellOf (h.cells t (.int .i64 x) (by simp [Ks, hxt]))
                have hr := sixth_is x
                have hr6 := sixth_lt x
                clear hxt
                by_cases ht7 : t < 7
                · have hv8 : L.length < 8 := by have := HC.out; omega
                  go_wp2_with fail
                  refine (adds_is (2 + (t : Int)) (sixth x) (by omega) _).mono ?_; rintro e w6 ⟨B1, c1, rfl, hp1, hx1, hf1⟩
                  have hr1 := Rd.lit w6 #[.slice B1 ((addsP (2 + (t : Int)) (sixth x))).prog.length c1, .int .i64 ((addsP (2 + (t : Int)) (sixth x))).at_, .int .u64 (((addsP (2 + (t : Int)) (sixth x))).rs 0), .int .u64 (((addsP (2 + (t : Int)) (sixth x))).rs 1), .int .u64 (((addsP (2 + (t : Int)) (sixth x))).rs 2), .int .u64 (((addsP (2 + (t : Int)) (sixth x))).rs 3), .bool ((addsP (2 + (t : Int)) (sixth x))).done, .int .i64 ((addsP (2 + (t : Int)) (sixth x))).took] 27 1 (size := 8) rfl
                  have ho := (own_ext hrow.1 hx1).alloc (.cells #[.slice B1 ((addsP (2 + (t : Int)) (sixth x))).prog.length c1, .int .i64 ((addsP (2 + (t : Int)) (sixth x))).at_, .int .u64 (((addsP (2 + (t : Int)) (sixth x))).rs 0), .int .u64 (((addsP (2 + (t : Int)) (sixth x))).rs 1), .int .u64 (((addsP (2 + (t : Int)) (sixth x))).rs 2), .int .u64 (((addsP (2 + (t : Int)) (sixth x))).rs 3), .bool ((addsP (2 + (t : Int)) (sixth x))).done, .int .i64 ((addsP (2 + (t : Int)) (sixth x))).took] 27)
                  go_wp2_with (first
                    | (at_builtin
                       refine wpList_append_rd _ rfl (.tmp 54) (.tmp 62) _ rfl w.heap.size 27 i0 _ 8 80 Try.underlying34 hi0 hz0 hz1 hz2 rfl (by omega) (.slice vA L.length vc) L.length _ rfl ho _ 1 1 _ rfl hr1 (Pv.cells_one ⟨B1, c1, addsP (2 + (t : Int)) (sixth x)⟩) (by simp only [maxLen]; omega) (by omega) (by have := hx.size; have := hx1.size; simp; omega) ?_
                       intro v1 w7 hown7 hg7 hat7))
                  go_roundw
                  case rel =>
                    refine ⟨own_back ((hx.step hx1).new _) (by have := hx.size; have := hx1.size; simp; omega) hg7 (fun q hq => (ho.lt q hq).1), t + 1, L ++ [⟨B1, c1, addsP (2 + (t : Int)) (sixth x)⟩], by omega, by go_num, ?_, ?_, ?_, ?_⟩
                    · exact hrow.push hx1 ⟨B1, c1, addsP (2 + (t : Int)) (sixth x)⟩ (by show 0 < (addsP _ _).prog.length; rw [addsP_length]; omega) hp1 hf1 hown7 hg7 hat7
                    · show _ = _
                      have := HC.out
                      simp
                      omega
                    · show _ = _
                      rw [List.getElem?_append_left (by have := HC.out; omega)]
                      exact HL0.out
                    · intro i u hi hu
                      by_cases e : i < L.length
                      · rw [List.getElem?_append_left e] at hu
                        exact HLL.out i u hi hu
                      · rw [List.getElem?_append_right (by omega)] at hu
                        have h0 := (List.getElem?_eq_some_iff.1 hu).1
                        simp at h0
                        rw [show i - L.length = 0 by omega] at hu
                        obtain rfl := Option.some.inj hu
                        exact ⟨2 + t, sixth x, by omega, by omega, hr6, by simp⟩
                  case measure => simp [intOf]; omega
                · go_wp2_with fail
                  go_roundw
                  case rel => exact ⟨hx, t + 1, L, by omega, by go_num, hrow, by show _ = _; rw [HC.out]; omega, HL0, HLL⟩
                  case measure => simp [intOf]; omega
              · have hL8 : L.length ≤ 8 := by have := HC.out; omega
                have hvc : 1 ≤ vc := by
                  have h1 := HC.out
                  rcases hrow.1.2 with ⟨h', _⟩ | ⟨g, cap, cur, hv, _, _, hle, _⟩
                  · injection h' with _ h2 _
                    omega
                  · injection hv with _ _ h2
                    omega
                have hL1 : 1 ≤ L.length := by have := HC.out; omega
                clear h
                obtain ⟨m, hm⟩ : ∃ m : Nat, m = min m0 300 := ⟨_, rfl⟩
                have HMM := Lib.hid hm
                have hm300 : m ≤ 300 := by omega
                have hpk := ints_take hpk0 (k := m) (by omega)
                clear hm
                go_upto_region 18 with fail
                go_cut [2] (fun s wx => s = .slice PA m k ∧ wr = wx)
                case first =>
                  by_cases hc : m0 ≤ 300
                  · obtain rfl : m0 = m := by have := HMM.out; omega
                    go_wp2_with fail
                    all_goals (go_meet; case rel => exact ⟨rfl, rfl⟩)
                  · obtain rfl : m = 300 := by have := HMM.out; omega
                    go_wp2_with fail
                    all_goals (go_meet; case rel => exact ⟨rfl, rfl⟩)
                case rest =>
                  obtain ⟨rfl, rfl⟩ := hcut
                  have hpl : (picks0.take m).length = m := by
                    have := hpk.1
                    simpa [Ks] using this
                  generalize picks0.take m = picks at hpk hpl
                  clear hpk0 HMM
                  have hpkr := hpk.to hx
                  go_wp2_with fail
                  go_loopw [11, 72] (fun sv j wx => Ext wr wx ∧ ∃ (t C : Nat), t ≤ m ∧ j = .int .i64 t ∧ C ≤ t ∧ Hid ((picks.take t).count 0 = C) ∧ wx.ownsRow wr.heap.size 3 1 sv C (Ks .i64 (List.replicate C 0))) (fun _ j _ => m - (intOf j).toNat)
                  case atStart => exact ⟨Ext.refl _, 0, 0, Nat.zero_le _, rfl, Nat.le_refl _, by show _ = _; simp, ⟨rfl, .inl ⟨rfl, rfl⟩⟩⟩
                  case round =>
                    obtain ⟨hy, t', C, htm, rfl, hCt, HCC, hown⟩ := hrel
                    rename World => wx
                    obtain ⟨mA, mc, rfl⟩ := own_slice hown
                    by_cases hlt' : t' < m
                    · obtain ⟨x, hxt⟩ : ∃ x, picks[t']? = some x := ⟨_, List.getElem?_eq_getElem (by omega)⟩
                      obtain ⟨pa, rfl⟩ := hpkr.some_ (by omega) (by omega)
                      have cx := hy.cellOf (hpkr.cells t' (.int .i64 x) (by simp [Ks, hxt]))
                      have hcg := count_get picks t' x 0 hxt
                      have HCG := Lib.hid hcg
                      clear hxt hcg
                      by_cases e0 : x = 0
                      · subst e0
                        have hr1 := Rd.lit wx #[.int .i64 0] 3 1 (size := 1) rfl
                        have ho := hown.alloc (.cells #[.int .i64 0] 3)
                        go_wp2_with (first
                          | (at_builtin
                             refine wpList_append_rd _ rfl (.tmp 78) (.tmp 79) _ rfl wr.heap.size 3 s0 _ 1 8 Try.underlying43 hs0 hsz0 hsz1 hsz2 rfl (by omega) (.slice mA C mc) C _ rfl ho _ 1 1 _ rfl hr1 (Ks_one .i64 [0]) (by simp only [maxLen]; omega) (by omega) (by have := hy.size; simp; omega) ?_
                             intro v1 w7 hown7 hg7 hat7))
                        go_roundw
                        case rel =>
                          refine ⟨own_back (hy.new _) (by have := hy.size; simp; omega) hg7 (fun q hq => (ho.lt q hq).1), t' + 1, C + 1, by omega, by go_num, by omega, ?_, ?_⟩
                          · show _ = _
                            rw [HCG.out, HCC.out]
                            simp
                          · rw [List.replicate_succ', show Ks .i64 (List.replicate C 0 ++ [0]) = Ks .i64 (List.replicate C 0) ++ Ks .i64 [0] by simp [Ks]]
                            exact hown7
                        case measure => simp [intOf]; omega
                      · have e0' : (x == 0) = false := by simpa using e0
                        go_wp2_with fail
                        go_roundw
                        case rel => exact ⟨hy, t' + 1, C, by omega, by go_num, by omega, by show _ = _; rw [HCG.out, HCC.out, if_neg e0]; simp, hown⟩
                        case measure => simp [intOf]; omega
                    · have hCm : picks.count 0 = C := by
                        have := HCC.out
                        rwa [show t' = m by omega, List.take_of_length_le (by omega)] at this
                      have hmine : Rd wx 1 mA C (Ks .i64 (List.replicate C 0)) := Rd.own hown
                      have hC300 : C ≤ 300 := by omega
                      obtain ⟨hrL, _⟩ := hrow.row
                      replace hrL := hrL.to hy
                      have hpkx := hpkr.to hy
                      have E6 := hx.step hy
                      obtain ⟨first, rest, rfl⟩ : ∃ f r, L = f :: r := by
                        match L, hL1 with
                        | f :: r, _ => exact ⟨f, r, rfl⟩
                      obtain rfl : first = ⟨A2, c2, q⟩ := Option.some.inj HL0.out
                      have hrF : Row wx vA [⟨A2, c2, q⟩] := by
                        refine ⟨?_, fun v hv => hrL.2 v (by rw [List.mem_singleton.1 hv]; simp)⟩
                        have := hrL.1.take (k := 1) (by simp)
                        rwa [flat_take Pv.cells_length, List.take_succ_cons, List.take_zero] at this
                      have hmays : ∀ v ∈ (⟨A2, c2, q⟩ : Pv) :: rest, v.p.May := fun v hv => by
                        rcases List.mem_cons.1 hv with rfl | hv
                        · exact HM.out
                        · obtain ⟨i, hi⟩ := List.getElem?_of_mem hv
                          obtain ⟨a, r, h2, h8, hr6, e⟩ := HLL.out (i + 1) v (by omega) (by simpa using hi)
                          rw [e]
                          exact addsP_may _ r (by omega) (by omega) (by omega)
                      obtain ⟨S, hS⟩ : ∃ S : List Int × List Pc, S = (List.replicate 64 0, ((⟨A2, c2, q⟩ : Pv) :: rest).map (·.p)) := ⟨_, rfl⟩
                      obtain ⟨S', hS'⟩ : ∃ S' : List Int × List Pc, S' = (List.replicate 64 0, [(⟨A2, c2, q⟩ : Pv)].map (·.p)) := ⟨_, rfl⟩
                      have hbes : Beside S S' := by
                        rw [hS, hS']
                        refine ⟨by simp, by simp, rfl, ⟨q, rfl, rfl, HM.out, HQ1.out⟩, fun i u hi hu => ?_⟩
                        dsimp only at hu
                        rw [List.getElem?_map] at hu
                        cases hv : ((⟨A2, c2, q⟩ : Pv) :: rest)[i]? with
                        | none => rw [hv] at hu; cases hu
                        | some v =>
                          rw [hv] at hu
                          obtain rfl := Option.some.inj hu
                          obtain ⟨a, r, h2, h8, hr6, e⟩ := HLL.out i v hi hv
                          exact ⟨a, r, by show v.p.prog = _; rw [e], by omega⟩
                      have hB2 := beside_runs picks hbes
                      rw [hCm] at hB2
                      have hmk2 := make64
                      have HR1 := Lib.hid (fun (W : World) (hW : Ext wx W) (ad : Addr) (hr : Rd W 1 (some ad) 64 (Us (List.replicate 64 0))) =>
                        run_by ad 64 (List.replicate 64 0) vA (rest.length + 1) vc _ PA m k picks W hr (hrL.to hW) rfl (by simpa using hL8) hmays (hpkx.to hW) (by omega) S hS)
                      have HR2 := Lib.hid (fun (W : World) (hW : Ext wx W) (ad : Addr) (hr : Rd W 1 (some ad) 64 (Us (List.replicate 64 0))) (d : Nat) =>
                        run_by ad 64 (List.replicate 64 0) vA 1 d _ mA C mc (List.replicate C 0) W hr (hrF.to hW) rfl (by omega) (fun v hv => hmays v (by rw [List.mem_singleton.1 hv]; simp)) (hmine.to hW) (by omega) S' hS')
                      generalize runs S picks = R at HR1 hB2
                      generalize runs S' (List.replicate C 0) = R' at HR2 hB2
                      obtain ⟨_, _, hX, ⟨P1, hP1, hP2, hPm, _⟩, _⟩ := hB2
                      obtain ⟨X1, hX1⟩ : ∃ X1, X1 = ith R.1 1 := ⟨_, rfl⟩
                      rw [← hX1] at hX
                      have HX1 := Lib.hid hX1
                      have HX2 := Lib.hid hX
                      have HP1 := Lib.hid hP1
                      have HP2 := Lib.hid hP2
                      have HPM := Lib.hid hPm
                      have hL8' : rest.length + 1 ≤ 8 := by simpa using hL8
                      clear hbes hS hS' hX hX1 hP1 hP2 hPm hCm HCC HLL HL0 HC hmays hL8 hL1 hown hrow hmine hpkx hpkr hpk hrL hrF
                      go_upto_region 25 with fail
                      go_cut [14, 15, 16] (fun s1 s2 s3 wz => Ext wx wz ∧ ∃ a3 c3 B3 d3 vs3, s1 = .slice (some a3) 64 c3 ∧ s2 = .slice B3 (rest.length + 1) d3 ∧ s3 = .int .i64 0 ∧ Rd wz 1 (some a3) 64 (Us R.1) ∧ Row wz B3 vs3 ∧ Hid (vs3.map (·.p) = R.2))
                      case first =>
                        go_wp2_with fail
                        refine (HR1.out _ ((Ext.refl _).new _) _ (Rd.zeros rfl)).mono ?_; rintro e w7 ⟨A3, c3, B3, d3, vs3, rfl, hr3, hv3, hmap3, hx3, _, _⟩
                        obtain ⟨a3, rfl⟩ := hr3.some_ (by omega) (by omega)
                        go_wp2_with fail
                        go_meet
                        case rel => exact ⟨((Ext.refl _).new _).step hx3, _, _, _, _, vs3, rfl, rfl, rfl, hr3, hv3, hmap3⟩
                      case rest =>
                        obtain ⟨E7, a3, c3, B3, d3, vs3, rfl, rfl, rfl, hr3, hv3, hmap3⟩ := hcut
                        rename World => wq
                        clear HR1
                        go_upto_region 26 with fail
                        go_cut [17, 18, 19] (fun s1 s2 s3 wz => Ext wq wz ∧ ∃ a6 c6 B6 d6 vs6, s1 = .slice (some a6) 64 c6 ∧ s2 = .slice B6 1 d6 ∧ s3 = .int .i64 0 ∧ Rd wz 1 (some a6) 64 (Us R'.1) ∧ Row wz B6 vs6 ∧ Hid (vs6.map (·.p) = R'.2))
                        case first =>
                          have h1 : (1 : Int) ≤ (vc : Int) := by omega
                          go_region_with (first
                            | (go_at_call 19
                               refine (HR2.out _ (Ext.step E7 ?_) _ ?_ vc).mono ?_
                               · repeat (first | exact Ext.refl _ | with_reducible refine Ext.drew ?_ | with_reducible refine Ext.new ?_ _)
                               · repeat (first | exact Rd.zeros (by simp) | with_reducible refine Rd.drew ?_ | with_reducible refine Rd.new _ ?_)
                               rintro e w8 ⟨A6, c6, B6, d6, vs6, rfl, hr6, hv6, hmap6, hx6, _, _⟩))
                          all_goals go_wp2_with fail
                          all_goals go_meet
                          all_goals
                            obtain ⟨a6, rfl⟩ := hr6.some_ (by omega) (by omega)
                            refine ⟨Ext.step ?_ hx6, _, _, _, _, vs6, rfl, rfl, rfl, hr6, hv6, hmap6⟩
                            repeat (first | exact Ext.refl _ | with_reducible refine Ext.drew ?_ | with_reducible refine Ext.new ?_ _)
                        case rest =>
                          obtain ⟨E8, a6, c6, B6, d6, vs6, rfl, rfl, rfl, hr6, hv6, hmap6⟩ := hcut
                          rename World => wz
                          replace hr3 := hr3.to E8
                          replace hv3 := hv3.to E8
                          have E9 := (E6.step E7).step E8
                          obtain ⟨u0, hu0⟩ : ∃ u, vs3[0]? = some u := by
                            have e := congrArg (fun l => l[0]?) hmap3.out
                            simp only [HP1.out, List.getElem?_map] at e
                            cases hv : vs3[0]? with
                            | none => rw [hv] at e; cases e
                            | some u => exact ⟨u, rfl⟩
                          have e0 : u0.p = P1 := by
                            have e := congrArg (fun l => l[0]?) hmap3.out
                            simp only [HP1.out, List.getElem?_map, hu0] at e
                            exact Option.some.inj e
                          obtain ⟨u6, rfl⟩ : ∃ u, vs6 = [u] := by
                            have h2 : vs6.length = 1 := by
                              have := congrArg List.length hmap6.out
                              rw [HP2.out] at this
                              simpa using this
                            match vs6, h2 with
                            | [u], _ => exact ⟨u, rfl⟩
                          have e6 : u6.p = P1 := by
                            have e := hmap6.out
                            rw [HP2.out] at e
                            simpa using e
                          have hpr0 := hv3.2 u0 (List.mem_of_getElem? hu0)
                          have hpr6 := hv6.2 u6 (by simp)
                          obtain ⟨b3, rfl, g0, g1, g2, g3, g4, g5, g6, g7⟩ := hv3.1.eight (i := 0) hu0
                          obtain ⟨b6, rfl, q0, q1, q2, q3, q4, q5, q6, q7⟩ := hv6.1.eight (i := 0) rfl
                          obtain ⟨uA, uc, up⟩ := u0
                          obtain ⟨tA, tc, tp⟩ := u6
                          dsimp only at e0 e6 hpr0 hpr6 g0 g1 g2 g3 g4 g5 g6 g7 q0 q1 q2 q3 q4 q5 q6 q7
                          subst e0
                          subst e6
                          have m3 := hr3.u64 (j := 1) (by omega)
                          have m6 := hr6.u64 (j := 1) (by omega)
                          rw [← HX1.out] at m3
                          rw [← HX2.out] at m6
                          have hLk := Lib.hid (fun (W : World) (hW : Ext wz W) => like_yes uA tA uc tc tp W (hpr0.to hW) (hpr6.to hW) (by have := HPM.out.1; omega))
                          have hSE : ∀ W, Ext wz W → (W.cell? b3 = some (.slice uA tp.prog.length uc) ∧ W.cell? { block := b3.block, off := b3.off + 1 } = some (.int .i64 tp.at_) ∧ W.cell? { block := b3.block, off := b3.off + 2 } = some (.int .u64 (tp.rs 0)) ∧ W.cell? { block := b3.block, off := b3.off + 3 } = some (.int .u64 (tp.rs 1)) ∧ W.cell? { block := b3.block, off := b3.off + 4 } = some (.int .u64 (tp.rs 2)) ∧ W.cell? { block := b3.block, off := b3.off + 5 } = some (.int .u64 (tp.rs 3)) ∧ W.cell? { block := b3.block, off := b3.off + 6 } = some (.bool tp.done) ∧ W.cell? { block := b3.block, off := b3.off + 7 } = some (.int .i64 tp.took) ∧ W.cell? b6 = some (.slice tA tp.prog.length tc) ∧ W.cell? { block := b6.block, off := b6.off + 1 } = some (.int .i64 tp.at_) ∧ W.cell? { block := b6.block, off := b6.off + 2 } = some (.int .u64 (tp.rs 0)) ∧ W.cell? { block := b6.block, off := b6.off + 3 } = some (.int .u64 (tp.rs 1)) ∧ W.cell? { block := b6.block, off := b6.off + 4 } = some (.int .u64 (tp.rs 2)) ∧ W.cell? { block := b6.block, off := b6.off + 5 } = some (.int .u64 (tp.rs 3)) ∧ W.cell? { block := b6.block, off := b6.off + 6 } = some (.bool tp.done) ∧ W.cell? { block := b6.block, off := b6.off + 7 } = some (.int .i64 tp.took) ∧ W.cell? { block := a3.block, off := a3.off + 1 } = some (.int .u64 X1) ∧ W.cell? { block := a6.block, off := a6.off + 1 } = some (.int .u64 X1)) := fun W hW =>
                            ⟨hW.cellOf g0, hW.cellOf g1, hW.cellOf g2, hW.cellOf g3, hW.cellOf g4, hW.cellOf g5, hW.cellOf g6, hW.cellOf g7, hW.cellOf q0, hW.cellOf q1, hW.cellOf q2, hW.cellOf q3, hW.cellOf q4, hW.cellOf q5, hW.cellOf q6, hW.cellOf q7, hW.cellOf m3, hW.cellOf m6⟩
                          have HSE := Lib.hid hSE
                          clear hSE g0 g1 g2 g3 g4 g5 g6 g7 q0 q1 q2 q3 q4 q5 q6 q7 m3 m6 hpr0 hpr6 hu0 hv3 hv6 hr3 hr6 HX1 HX2
                          go_wp2_with fail
                          go_region_held3 (fun W => W.cell? b3 = some (.slice uA tp.prog.length uc) ∧ W.cell? { block := b3.block, off := b3.off + 1 } = some (.int .i64 tp.at_) ∧ W.cell? { block := b3.block, off := b3.off + 2 } = some (.int .u64 (tp.rs 0)) ∧ W.cell? { block := b3.block, off := b3.off + 3 } = some (.int .u64 (tp.rs 1)) ∧ W.cell? { block := b3.block, off := b3.off + 4 } = some (.int .u64 (tp.rs 2)) ∧ W.cell? { block := b3.block, off := b3.off + 5 } = some (.int .u64 (tp.rs 3)) ∧ W.cell? { block := b3.block, off := b3.off + 6 } = some (.bool tp.done) ∧ W.cell? { block := b3.block, off := b3.off + 7 } = some (.int .i64 tp.took) ∧ W.cell? b6 = some (.slice tA tp.prog.length tc) ∧ W.cell? { block := b6.block, off := b6.off + 1 } = some (.int .i64 tp.at_) ∧ W.cell? { block := b6.block, off := b6.off + 2 } = some (.int .u64 (tp.rs 0)) ∧ W.cell? { block := b6.block, off := b6.off + 3 } = some (.int .u64 (tp.rs 1)) ∧ W.cell? { block := b6.block, off := b6.off + 4 } = some (.int .u64 (tp.rs 2)) ∧ W.cell? { block := b6.block, off := b6.off + 5 } = some (.int .u64 (tp.rs 3)) ∧ W.cell? { block := b6.block, off := b6.off + 6 } = some (.bool tp.done) ∧ W.cell? { block := b6.block, off := b6.off + 7 } = some (.int .i64 tp.took) ∧ W.cell? { block := a3.block, off := a3.off + 1 } = some (.int .u64 X1) ∧ W.cell? { block := a6.block, off := a6.off + 1 } = some (.int .u64 X1)) (first | exact HSE.out _ (Ext.refl wz).drew | exact HSE.out _ hx8 | exact HSE.out _ hx7)
                            (first
                              | (go_at_call 15; refine (alive_yes _).mono ?_; rintro e w7 ⟨rfl, hx7'⟩; have hx7 : Ext wz w7 := hx7'.undrew; clear hx7')
                              | (go_at_call 16; refine (hLk.out _ hx7).mono ?_; rintro e w8 ⟨rfl, hx8'⟩; have hx8 : Ext wz w8 := hx7.step hx8'; clear hx8'))
                          all_goals go_wp2_with fail
                          all_goals go_ret
                          all_goals exact ⟨rfl, E9.step hx8⟩

theorem MachineApart_walk (w : World) (A0 : Option Addr) (c0 : Nat) (p0 : Pc) (hp0 : Prg w A0 p0.prog) (hd : p0.prog.length ≤ c0) (_ : c0 ≤ maxLen)
    (A : Option Addr) (n c : Nat) (many : List Int) (h : Rd w 1 A n (Ks .i64 many)) (hn : n ≤ c) (hm : c ≤ maxLen) (_ : ∀ z ∈ many, (Lit.int .i64 z).wf = true)
    (PA : Option Addr) (m k : Nat) (picks : List Int) (hp : Rd w 1 PA m (Ks .i64 picks)) (hmk : m ≤ k) (_ : k ≤ maxLen) (_ : ∀ z ∈ picks, (Lit.int .i64 z).wf = true) :
    Calls Try.prog 6 #[.agg #[.slice A0 p0.prog.length c0, .int .i64 p0.at_, .int .u64 (p0.rs 0), .int .u64 (p0.rs 1), .int .u64 (p0.rs 2), .int .u64 (p0.rs 3), .bool p0.done, .int .i64 p0.took], .slice A n c, .slice PA m k] w fun e w' => e = .returned (.bool true) ∧ Ext w w' :=
  apart_walk w A0 c0 p0 hp0 hd A n c many h (Nat.le_trans hn hm) PA m k picks hp hmk

end Go.Proofs.Yteiabmbfjfaboaa
