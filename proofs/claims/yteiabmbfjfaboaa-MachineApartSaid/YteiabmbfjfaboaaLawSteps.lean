/-
  The walk of MachineSteps: which processes may be, and what a step of any one makes of any words.
-/
import Derived.Test.YteiabmbfjfaboaaAlive
import Derived.Test.YteiabmbfjfaboaaRefStep
import Derived.Test.YteiabmbfjfaboaaRefMay
set_option linter.unusedVariables false
set_option linter.unusedSimpArgs false
namespace Go.Proofs.Yteiabmbfjfaboaa
open Go.RowKit
attribute [local go_sem ↓] Go.wp_at_zero Go.wp_at_succ

theorem Bx.sets {W : World} {b : Nat} {cs : Array Value} (h : Bx W b cs) (vs : List Value) (hv : vs.length = cs.size) : Bx (W.setCells b 0 vs) b vs.toArray := by
  have hin := World.cell?_setCells_in b vs 0 W (fun j hj => by
    rw [Nat.zero_add]
    exact Option.isSome_iff_exists.2 ⟨_, (h.cell j).trans (Array.getElem?_eq_getElem (by omega))⟩)
  refine ⟨Nat.lt_of_lt_of_le h.lt ((Only.refl b W).sets vs 0).size, fun j => ?_, fun j => by rw [World.frozen?_setCells]; exact h.free j⟩
  by_cases hj : j < vs.length
  · have := hin j hj
    rw [Nat.zero_add] at this
    rw [this]
    simp [hj]
  · rw [World.cell?_setCells_out b _ _ _ _ (fun _ _ => .inr (by simp; omega)), h.cell j]
    simp
    rw [Array.getElem?_eq_none (by omega), List.getElem?_eq_none (by omega)]

/-- No process: all its numbers are 0. -/
def Pc.zero : Pc := ⟨[], 0, fun _ => 0, false, 0⟩
theorem ext_sets {w W : World} {b : Nat} (h : Ext w W) (hb : w.heap.size ≤ b) (vs : List Value) : Ext w (W.setCells b 0 vs) := ((Only.refl b W).sets vs 0).new h hb

set_option maxRecDepth 100000 in
set_option maxHeartbeats 2000000 in
theorem MachineSteps_walk (w : World) (A : Option Addr) (n c : Nat) (zs : List Int) (h : Rd w 1 A n (Us zs)) (_ : n ≤ c) (_ : c ≤ maxLen) (_ : ∀ z ∈ zs, (Lit.int .u64 z).wf = true)
    (B : Option Addr) (d : Nat) (p0 : Pc) (hp0 : Prg w B p0.prog) (hd : p0.prog.length ≤ d) (_ : d ≤ maxLen) (short : Bool) :
    Calls Try.prog 3 #[.slice A n c, .agg #[.slice B p0.prog.length d, .int .i64 p0.at_, .int .u64 (p0.rs 0), .int .u64 (p0.rs 1), .int .u64 (p0.rs 2), .int .u64 (p0.rs 3), .bool p0.done, .int .i64 p0.took], .bool short] w fun e w' => e = .returned (.bool true) ∧ Ext w w' := by
  have HF := Lib.hid (fun W => few_is B d p0 W hd)
  have hpl : p0.cut.prog.length ≤ 66 := by simp [Pc.cut]; omega
  have hp1 := hp0.cut
  generalize p0.cut = p at HF hpl hp1
  obtain ⟨b, hb⟩ : ∃ b : Bool, b = true ↔ p.May := by
    by_cases hq : p.May
    · exact ⟨true, by simp [hq]⟩
    · exact ⟨false, by simp [hq]⟩
  have HBM := Lib.hid hb
  clear hb hd hp0
  go_enter Try.func3, Try.ntmps3
  go_upto_region 1 with fail
  go_cut [4] (fun s wx => s = .pointer (some ⟨w.heap.size, 0, none⟩) ∧ Ext w wx ∧ Bx wx w.heap.size #[.slice B p.prog.length d, .int .i64 p.at_, .int .u64 (p.rs 0), .int .u64 (p.rs 1), .int .u64 (p.rs 2), .int .u64 (p.rs 3), .bool p.done, .int .i64 p.took])
  case first =>
    go_wp2_with fail
    refine (HF.out _).mono ?_; rintro e w1 ⟨rfl, hx1⟩
    have B1 := Bx.fresh hx1
    have E1 := ((Ext.refl w).new _).step hx1
    have k1 := B1.cell; have f1 := B1.free
    go_wp2_with fail
    go_meet
    case rel => exact ⟨rfl, ext_sets E1 (Nat.le_refl _) (Pv.cells ⟨B, d, p⟩), B1.sets (Pv.cells ⟨B, d, p⟩) rfl⟩
  case rest =>
    obtain ⟨rfl, E1, B1⟩ := hcut
    clear HF
    go_wp2_with fail
    refine (words_is A n c zs _ (h.to E1)).mono ?_; rintro e w2 ⟨g, rfl, hg, hr2, hx2⟩
    replace B1 := B1.to hx2
    have E2 := E1.step hx2
    clear E1 hx2 h
    obtain ⟨m, hm⟩ : ∃ m : Nat, m = if short then 63 else 64 := ⟨_, rfl⟩
    have HM := Lib.hid hm
    clear hm
    go_upto_if 15 with fail
    go_cut [0] (fun s wx => s = .slice (some ⟨g, 0, none⟩) m 64 ∧ w2 = wx)
    case first =>
      cases short
      · obtain rfl : m = 64 := HM.out
        go_wp2_with fail
        go_meet
        case rel => exact ⟨rfl, rfl⟩
      · obtain rfl : m = 63 := HM.out
        go_wp2_with fail
        go_meet
        case rel => exact ⟨rfl, rfl⟩
    case rest =>
      obtain ⟨rfl, rfl⟩ := hcut
      go_upto_region 5 with fail
      go_cut [7, 8, 9] (fun s7 s8 s9 wx => ∃ (A7 : Option Addr) (n7 c7 b8 : Nat) (e9 : Int) (Bq : Option Addr) (dq : Nat) (q : Pc), s7 = .slice A7 n7 c7 ∧ s8 = .pointer (some ⟨b8, 0, none⟩) ∧ s9 = .int .i64 e9 ∧ Ext w2 wx ∧ Bx wx b8 #[.slice Bq q.prog.length dq, .int .i64 q.at_, .int .u64 (q.rs 0), .int .u64 (q.rs 1), .int .u64 (q.rs 2), .int .u64 (q.rs 3), .bool q.done, .int .i64 q.took] ∧ Prg wx Bq q.prog ∧
        Hid ((b = true ∧ m = 64 ∧ n7 = 64 ∧ e9 = 0 ∧ Rd wx 1 A7 64 (Us (stp (fill zs) p).1) ∧ q = (stp (fill zs) p).2) ∨ (¬ (b = true ∧ m = 64) ∧ n7 = 0 ∧ e9 = 1 ∧ q = Pc.zero)))
      case first =>
        have k1 := B1.cell
        go_wp2_with fail
        by_cases hbm : b = true ∧ m = 64
        · obtain ⟨rfl, rfl⟩ := hbm
          refine (mstep_yes ⟨g, 0, none⟩ 64 (fill zs) B d p _ hr2 (hp1.to E2) (HBM.out.1 rfl)).mono ?_; rintro e w3 ⟨A3, c3, B3, d3, rfl, hr3, hp3, hx3⟩
          go_wp2_with fail
          go_meet
          case rel => exact ⟨_, _, _, _, _, _, _, _, rfl, rfl, rfl, hx3.new _, Bx.new _ _ _, hp3.to ((Ext.refl _).new _), .inl ⟨by trivial, by trivial, rfl, rfl, hr3.to ((Ext.refl _).new _), rfl⟩⟩
        · refine (mstep_no _ m 64 B d p _ (hp1.to E2) b HBM.out hbm).mono ?_; rintro e w3 ⟨rfl, hx3⟩
          go_wp2_with fail
          go_meet
          case rel => exact ⟨_, _, _, _, _, none, 0, Pc.zero, rfl, rfl, rfl, hx3.new _, Bx.new _ _ _, Rd.nil _ _ _, .inr ⟨hbm, rfl, rfl, rfl⟩⟩
      case rest =>
        obtain ⟨A7, n7, c7, b8, e9, Bq, dq, q, rfl, rfl, rfl, hx3, B8, hpq, HR⟩ := hcut
        replace B1 := B1.to hx3
        replace hr2 := hr2.to hx3
        have E3 := E2.step hx3
        clear E2 hx3
        go_upto_region 6 with fail
        go_cut [34] (fun s wx => s = .bool false ∧ Ext wc wx)
        case first =>
          have k1 := B1.cell; have z1 := B1.lt
          go_region_with (first
            | (go_at_call 13
               refine (right_is _ 1 1 [⟨B, d, p⟩] _ ?_ rfl b (by rw [HBM.out]; simp)).mono ?_
               · refine ⟨?_, fun v hv => ?_⟩
                 · repeat (first | exact Rd.litAt rfl rfl (by simp) | with_reducible refine Rd.drew ?_ | with_reducible refine Rd.new _ ?_)
                 · rw [List.mem_singleton.1 hv]
                   show Prg _ B p.prog
                   refine hp1.to (E3.step ?_)
                   repeat (first | exact Ext.refl _ | with_reducible refine Ext.drew ?_ | with_reducible refine Ext.new ?_ _ | refine Ext.step ?_ hx5)
               rintro e w4 ⟨rfl, hx4⟩
               have E4 : Ext wc w4 := by
                 refine Ext.step ?_ hx4
                 repeat (first | exact Ext.refl _ | with_reducible refine Ext.drew ?_ | with_reducible refine Ext.new ?_ _ | refine Ext.step ?_ hx5)
               have k4 := (B1.to E4).cell
               have z4 := (B1.to E4).lt)
            | (go_at_call 14
               refine (may_is B d p _ ?_ (by omega) b HBM.out).mono ?_
               · refine hp1.to (E3.step ?_)
                 repeat (first | exact Ext.refl _ | with_reducible refine Ext.drew ?_ | with_reducible refine Ext.new ?_ _ | refine Ext.step ?_ hx4)
               rintro e w5 ⟨rfl, hx5⟩
               have E5 : Ext wc w5 := by
                 refine Ext.step ?_ hx5
                 repeat (first | exact Ext.refl _ | with_reducible refine Ext.drew ?_ | with_reducible refine Ext.new ?_ _ | refine Ext.step ?_ hx4)
               have k5 := (B1.to E5).cell
               have z5 := (B1.to E5).lt)
            | (go_at_call 15; refine (alive_yes _).mono ?_; rintro e w6 ⟨rfl, hx6⟩))
          all_goals go_wp2_with fail
          all_goals go_meet
          all_goals refine ⟨rfl, Ext.step ?_ hx6⟩
          all_goals repeat (first | exact E5 | exact E4 | with_reducible refine Ext.drew ?_ | with_reducible refine Ext.new ?_ _)
        case rest =>
          obtain ⟨rfl, E4⟩ := hcut
          replace B1 := B1.to E4
          replace B8 := B8.to E4
          replace hpq := hpq.to E4
          replace hr2 := hr2.to E4
          have E5 := E3.step E4
          have k1 := B1.cell; have z1 := B1.lt
          rcases HR.out with ⟨rfl, rfl, rfl, rfl, hr7, rfl⟩ | ⟨hno, rfl, rfl, rfl⟩
          · obtain rfl : short = false := by
              cases short
              · rfl
              · exact absurd HM.out (by decide)
            replace hr7 := hr7.to E4
            clear HR E3 E4
            go_wp2_with fail
            refine (may_is B d p _ (hp1.to E5) (by omega) true (by have := HBM.out; simpa using this)).mono ?_; rintro e w4 ⟨rfl, hx4⟩
            replace B1 := B1.to hx4; replace B8 := B8.to hx4; replace hpq := hpq.to hx4; replace hr2 := hr2.to hx4; replace hr7 := hr7.to hx4
            replace E5 := E5.step hx4
            clear hx4 k1 z1
            have k1 := B1.cell; have z1 := B1.lt
            go_wp2_with fail
            refine (ref_is ⟨g, 0, none⟩ 64 (fill zs) B d p _ hr2 (hp1.to E5) (by have := HBM.out; simpa using this)).mono ?_; rintro e w5 ⟨A5, c5, rfl, hr5, hx5, _⟩
            replace B8 := B8.to hx5; replace hpq := hpq.to hx5; replace hr7 := hr7.to hx5
            replace E5 := E5.step hx5
            clear hx5 k1 z1 hr2
            go_wp2_with fail
            refine (same_yes A7 A5 64 c7 c5 _ _ (hr7.to ((Ext.refl _).new _)) (hr5.to ((Ext.refl _).new _)) (by omega)).mono ?_; rintro e w6 ⟨rfl, hx6⟩
            have B9 := Bx.fresh hx6
            have f6 := ((Ext.refl w5).new _).step hx6
            replace B8 := B8.to f6; replace hpq := hpq.to f6
            replace E5 := E5.step f6
            clear hx6 f6
            have k8 := B8.cell; have k9 := B9.cell
            go_wp2_with fail
            refine (like_yes Bq B dq d (stp (fill zs) p).2 _ hpq (by rw [stp_prog]; exact hp1.to E5) (by rw [stp_prog]; omega)).mono ?_; rintro e w7 ⟨rfl, hx7⟩
            go_wp2_with fail
            go_ret
            exact ⟨rfl, E5.step hx7⟩
          · clear HR E3 E4
            go_wp2_with fail
            refine (may_is B d p _ (hp1.to E5) (by omega) b HBM.out).mono ?_; rintro e w4 ⟨rfl, hx4⟩
            replace B8 := B8.to hx4; replace hpq := hpq.to hx4
            replace E5 := E5.step hx4
            clear hx4 k1 z1
            have k8 := B8.cell
            have hbs : b = false ∨ (b = true ∧ short = true) := by
              cases b
              · exact .inl rfl
              · refine .inr ⟨rfl, ?_⟩
                cases short
                · exact absurd ⟨rfl, HM.out⟩ hno
                · rfl
            clear hno
            rcases hbs with rfl | ⟨rfl, rfl⟩
            all_goals
              go_wp2_with fail
              refine (like_yes Bq none dq 0 Pc.zero _ hpq (Rd.nil _ _ _) (by simp [Pc.zero])).mono ?_; rintro e w7 ⟨rfl, hx7⟩
              go_wp2_with fail
              go_ret
              exact ⟨rfl, E5.step hx7⟩

end Go.Proofs.Yteiabmbfjfaboaa
