/-
  The walk of WordWrites: of words that are written one by one each holds what was written there last.
-/
import Derived.Test.YtfjmocnkhaomiaaLaw8
import Derived.Test.YtfjmocnkhaomiaaOpen2
import Derived.Maps.OwnOps
import Derived.Maps.OwnSet
import Derived.Maps.Views
namespace Go.Proofs.Ytfjmocnkhaomiaa
open Go.RowKit Go.Maps

theorem Ext.turned {a b : World} (h : Ext a b) (row : Option Nat) : a.grownBy b row := ⟨h.os, h.tape, h.output, h.size, fun k hk _ => h.block k hk⟩

/-- A store into a map changes no slice. -/
theorem Rd.beside {w w' : World} {size n b : Nat} {A : Option Addr} {xs : List Value} {es : Array MapEntry} {ck : Nat} (h : Rd w size A n xs) (hg : w.grownBy w' (some b)) (hb : w.heap[b]? = some (.map es ck)) : Rd w' size A n xs :=
  ⟨h.1, fun j u hu => by
    obtain ⟨ad, ha, hc⟩ := h.2 j u hu
    refine ⟨ad, ha, hg.cell hc (fun e => ?_)⟩
    injection e with e
    unfold World.cell? at hc
    rw [e, hb] at hc
    cases hc⟩

/-- (x mod m + m) mod m, as the machine has it. -/
theorem mod_idx (x : Int) (m : Nat) (hm : m ≤ 100) (h0 : 0 < m) : (wrap64 (x.tmod (m : Int) + (m : Int))).tmod (m : Int) = (((x % (m : Int)).toNat : Nat) : Int) := by
  have e0 : 0 ≤ x % (m : Int) := Int.emod_nonneg _ (by omega)
  have e1 : x % (m : Int) < m := Int.emod_lt_of_pos _ (by omega)
  rw [Int.toNat_of_nonneg e0]
  have h1 : x.tmod (m : Int) = x % (m : Int) ∨ x.tmod (m : Int) = x % (m : Int) - m := by
    rw [Int.tmod_eq_emod]
    split
    · left; omega
    · right; simp
  rcases h1 with h | h
  · rw [h, w64_small (by omega) (by omega), Int.tmod_eq_emod_of_nonneg (by omega), Int.add_emod_right, Int.emod_emod_of_dvd _ (Int.dvd_refl _)]
  · rw [h, w64_small (by omega) (by omega), Int.tmod_eq_emod_of_nonneg (by omega), Int.sub_add_cancel, Int.emod_emod_of_dvd _ (Int.dvd_refl _)]

theorem int_law : Keyed Try.prog 3 := int_keyed Try.underlying3
theorem zero_u64 (w : World) : (zeroValue 23).run Try.prog w = .ok (.int .u64 0) w := by kernel_rfl

set_option maxRecDepth 100000 in
set_option maxHeartbeats 2000000 in
theorem writes_walk (n0 : Int) (A : Option Addr) (L c : Nat) (V : Nat → Int × Int × Int × Int) (w : World) (h : Recs w .i64 .i64 .u64 .u64 A L V)
    (hw : ∀ i, i < L → (Lit.int .u64 (V i).2.2.1).wf = true) (hL : L ≤ c) :
    Calls Try.prog 6 #[.int .i64 n0, .slice A L c] w fun e w' => e = .returned (.bool true) ∧ Ext w w' := by
  obtain ⟨i0, hi0, hz0, hz1, hz2⟩ := info_parts u64_info
  have hmm := @run_makeMap Try.prog
  obtain ⟨N, hN, hN1, hN8⟩ : ∃ N : Nat, wrap64 (1 + (wrap64 (n0.tmod 8 + 8)).tmod 8) = (N : Int) ∧ 1 ≤ N ∧ N ≤ 8 := by
    have e := mod_idx n0 8 (by omega) (by omega)
    have e0 : 0 ≤ n0 % 8 := by omega
    have e1 : n0 % 8 < 8 := by omega
    refine ⟨1 + (n0 % 8).toNat, ?_, by omega, by omega⟩
    rw [show (wrap64 (n0.tmod 8 + 8)).tmod 8 = (((n0 % 8).toNat : Nat) : Int) from e, w64_small (by omega) (by omega)]
    omega
  go_enter Try.func6, Try.ntmps6
  go_upto_region 1 with fail
  go_cut [0] (fun s0 wx => s0 = .int .i64 N ∧ w = wx)
  case first =>
    go_wp2_with fail
    go_meet
    case rel => exact ⟨by rw [hN], rfl⟩
  case rest =>
    obtain ⟨rfl, rfl⟩ := hcut
    clear hN
    go_wp2_with (first
      | (at_make
         refine wpList_make_full _ rfl _ _ _ rfl w.heap.size 23 i0 _ 1 Try.underlying22 hi0 hz0 hz1 .i64 .i64 _ _ N rfl rfl rfl rfl (by rw [hz2]; omega) (by simp only [maxLen]; omega) (Nat.le_refl _) ?_
         intro w1 hown1 hg1))
    have hm0 := World.ownsMap_made w1 Try.prog 3 (plainElem (H := Unit) Try.prog 23)
    have hr1 : Rd w1 1 (some ⟨w.heap.size, 0, none⟩) N (Us (List.replicate N 0)) := by
      have := Rd.own hown1
      rw [Nat.mul_one] at this
      rwa [show (madeCells (Value.int .u64 0).cells N).toList = Us (List.replicate N 0) by simp [Us, Value.cells, toList_madeCells_one]] at this
    have E1 : Ext w w1 := (Ext.refl w).grown hg1 (Nat.le_refl _) (by simp)
    have hB : w.heap.size ≤ w1.heap.size := E1.size
    have hr2 := hr1.to ((Ext.refl w1).new (.map #[] 0))
    have E2 := E1.new (.map #[] 0)
    clear hown1 hg1 hr1
    generalize w1.heap.size = B at hm0 hB ⊢
    go_loopw [5, 25] (fun u j wr => Ext w wr ∧ ∃ (t : Nat) (A' : Option Addr) (c' : Nat) (ws : List Int) (D : DataW Unit), t ≤ 40 ∧ t ≤ L ∧ j = .int .i64 t ∧ u = .slice A' N c' ∧ Rd wr 1 A' N (Us ws) ∧ wr.ownsMap Try.prog 3 (plainElem Try.prog 23) B t D ∧ IsMap D ∧
      ∀ q : Nat, q < N → D.atKey (.int .i64 q) (.lit (.int .u64 0)) = .lit (.int .u64 (ith ws q))) (fun _ j _ => L - (intOf j).toNat)
    case atStart =>
      refine ⟨E2, 0, _, _, _, _, by omega, by omega, rfl, rfl, hr2, hm0, isMap_empty, fun q hq => ?_⟩
      rw [show ith (List.replicate N 0) q = 0 by simp [ith, List.getD_eq_getElem?_getD, List.getElem?_replicate]; split <;> rfl]
      rfl
    case round =>
      obtain ⟨hx, t, A', c', ws, D, h40, htL, rfl, rfl, hrw, hown, hD, hat⟩ := hrel
      have HD := Lib.hid hD
      have Hat := Lib.hid hat
      clear hD hat
      by_cases hlt : t < L
      · have hrec := h.to hx t hlt
        have hwf := hw t hlt
        generalize hV : V t = v at hrec hwf
        obtain ⟨k, at', a, b⟩ := v
        clear hV
        obtain ⟨ad, rfl, g0, g1, g2, g3⟩ := hrec
        have Hwf := Lib.hid hwf
        clear hwf
        by_cases h4 : t < 40
        · have hidx := mod_idx at' N (by omega) (by omega)
          have hil : (at' % (N : Int)).toNat < N := by
            have := Int.emod_lt_of_pos at' (b := (N : Int)) (by omega)
            have := Int.emod_nonneg at' (b := (N : Int)) (by omega)
            omega
          generalize (at' % (N : Int)).toNat = i at hidx hil
          have hN0 : ((N : Int) == 0) = false := by simp; omega
          obtain ⟨bd, rfl⟩ := hrw.some_ (by omega) (by omega)
          replace g1 : wr.cell? { block := (ad.add (t * 4)).block, off := (ad.add (t * 4)).off + 1 } = some (.int .i64 at') := g1
          replace g2 : wr.cell? { block := (ad.add (t * 4)).block, off := (ad.add (t * 4)).off + 2 } = some (.int .u64 a) := g2
          replace g3 : wr.cell? { block := (ad.add (t * 4)).block, off := (ad.add (t * 4)).off + 3 } = some (.int .u64 b) := g3
          go_wp2_with fail
          clear g0 g1 g2 g3 hidx
          refine (store_yes bd N c' ws a i _ (hrw.to ((Ext.refl wr).new _)) (by omega) hil).mono ?_; rintro e w2 ⟨A2, c2, rfl, hr3, hx3⟩
          have q0 := (Box.new _ _ _).to hx3
          have f2 := (Ext.new (Ext.refl wr) _).step hx3
          have r0 := q0.2
          have hown2 := hown.kept (f2.turned none) (by simp)
          obtain ⟨w3, hrun, hown3, hg3⟩ := hown2.drew.update (key := .int .i64 i) (val := .int .u64 a) int_law Try.underlying46 (by simp only [maxLen]; omega) (keyOf_int_mk Try.underlying3 (WalkArith.wf_i64 (by omega))) (plainElem_int Try.underlying23 Hwf.out)
          go_wp2_with fail
          go_region
          go_wp2_with fail
          go_roundw
          case rel =>
            refine ⟨(Below.drew (hx.step f2)).grown hg3 (hx.step f2).size (fun k hk => by injection hk with hk; omega), t + 1, _, _, ws.set i a, _, by omega, by omega, by go_num, rfl, ?_, hown3, HD.out.put _ _, fun q hq => ?_⟩
            · obtain ⟨es, ck, hes, _⟩ := hown2
              exact Rd.beside (w := w2.drew) hr3 hg3 hes
            · have hl : i < ws.length := by rw [hrw.u64len]; omega
              by_cases hqi : q = i
              · subst hqi
                rw [atKey_put_same HD.out (by trivial), ith_set _ _ _ hl]
              · rw [atKey_put_other (by simp; omega), ith_set_ne _ _ _ _ (fun e => hqi e.symm)]
                exact Hat.out q hq
          case measure => simp [intOf]; omega
        · have h40' : 40 ≤ t := by omega
          replace g1 : wr.cell? { block := (ad.add (t * 4)).block, off := (ad.add (t * 4)).off + 1 } = some (.int .i64 at') := g1
          replace g2 : wr.cell? { block := (ad.add (t * 4)).block, off := (ad.add (t * 4)).off + 2 } = some (.int .u64 a) := g2
          replace g3 : wr.cell? { block := (ad.add (t * 4)).block, off := (ad.add (t * 4)).off + 3 } = some (.int .u64 b) := g3
          go_wp2_with fail
          go_loopw [57] (fun j wq => Ext wr wq ∧ ∃ q : Nat, q ≤ N ∧ j = .int .i64 q) (fun j _ => N - (intOf j).toNat)
          case atStart => exact ⟨(Ext.refl wr).new _, 0, Nat.zero_le _, rfl⟩
          case round =>
            obtain ⟨hxq, q, hqN, rfl⟩ := hrel
            by_cases hq : q < N
            · have hrq := hrw.to hxq
              obtain ⟨bd, rfl⟩ := hrq.some_ (by omega) (by omega)
              obtain ⟨cc, hrun, hcc, _⟩ := (hown.kept (hxq.turned none) (by simp)).lookup_int (key := .int .i64 q) int_law Try.underlying46 Try.underlying23 (zero_u64 _) (keyOf_int_mk Try.underlying3 (WalkArith.wf_i64 (by omega)))
              have hce : cc = ith ws q := by
                have := hcc.symm.trans (Hat.out q hq)
                simpa using this
              subst hce
              clear hcc
              go_wp2_with fail
              refine (load_yes bd N c' ws q _ hrq (by omega) hq).mono ?_; rintro e w' ⟨rfl, rfl⟩
              go_wp2_with fail
              go_roundw
              case rel => exact ⟨hxq, q + 1, by omega, by go_num⟩
              case measure => simp [intOf]; omega
            · go_wp2_with fail
              refine (alive_yes _).mono ?_; rintro e w4 ⟨rfl, hx4⟩
              go_wp2_with fail
              go_ret
              exact ⟨rfl, (hx.step hxq).step hx4⟩
      · go_wp2_with fail
        go_loopw [57] (fun j wq => Ext wr wq ∧ ∃ q : Nat, q ≤ N ∧ j = .int .i64 q) (fun j _ => N - (intOf j).toNat)
        case atStart => exact ⟨Ext.refl wr, 0, Nat.zero_le _, rfl⟩
        case round =>
          obtain ⟨hxq, q, hqN, rfl⟩ := hrel
          by_cases hq : q < N
          · have hrq := hrw.to hxq
            obtain ⟨bd, rfl⟩ := hrq.some_ (by omega) (by omega)
            obtain ⟨cc, hrun, hcc, _⟩ := (hown.kept (hxq.turned none) (by simp)).lookup_int (key := .int .i64 q) int_law Try.underlying46 Try.underlying23 (zero_u64 _) (keyOf_int_mk Try.underlying3 (WalkArith.wf_i64 (by omega)))
            have hce : cc = ith ws q := by
              have := hcc.symm.trans (Hat.out q hq)
              simpa using this
            subst hce
            clear hcc
            go_wp2_with fail
            refine (load_yes bd N c' ws q _ hrq (by omega) hq).mono ?_; rintro e w' ⟨rfl, rfl⟩
            go_wp2_with fail
            go_roundw
            case rel => exact ⟨hxq, q + 1, by omega, by go_num⟩
            case measure => simp [intOf]; omega
          · go_wp2_with fail
            refine (alive_yes _).mono ?_; rintro e w4 ⟨rfl, hx4⟩
            go_wp2_with fail
            go_ret
            exact ⟨rfl, (hx.step hxq).step hx4⟩

theorem WordWrites_walk (w : World) (n0 : Int) (_ : (Lit.int .i64 n0).wf = true) (A : Option Addr) (n c : Nat) (V : Nat → Int × Int × Int × Int) (h : Recs w .i64 .i64 .u64 .u64 A n V) (hn : n ≤ c) (_ : c ≤ maxLen)
    (hw : ∀ i, i < n → (Lit.int .i64 (V i).1).wf = true ∧ (Lit.int .i64 (V i).2.1).wf = true ∧ (Lit.int .u64 (V i).2.2.1).wf = true ∧ (Lit.int .u64 (V i).2.2.2).wf = true) :
    Calls Try.prog 6 #[.int .i64 n0, .slice A n c] w fun e w' => e = .returned (.bool true) ∧ Ext w w' :=
  writes_walk n0 A n c V w h (fun i hi => (hw i hi).2.2.1) hn

end Go.Proofs.Ytfjmocnkhaomiaa
