/-
  The document's own test of processes (ref.May, ref.All), walked.
-/
import Derived.Test.YteiabmbfjfaboaaRow
set_option linter.unusedVariables false
set_option linter.unusedSimpArgs false
namespace Go.Proofs.Yteiabmbfjfaboaa
open Go.RowKit

theorem not_ok_cases {x : Ins} {n : Nat} (h : ¬ x.Ok n) : x.k < 1 ∨ (1 ≤ x.k ∧ 8 < x.k) ∨ ((1 ≤ x.k ∧ x.k ≤ 8) ∧ x.r < 0) ∨ ((1 ≤ x.k ∧ x.k ≤ 8) ∧ 0 ≤ x.r ∧ 3 < x.r) ∨ ((1 ≤ x.k ∧ x.k ≤ 8) ∧ (0 ≤ x.r ∧ x.r ≤ 3) ∧ x.i < 0) ∨ ((1 ≤ x.k ∧ x.k ≤ 8) ∧ (0 ≤ x.r ∧ x.r ≤ 3) ∧ 0 ≤ x.i ∧ 63 < x.i) ∨
    (((0 ≤ x.r ∧ x.r ≤ 3) ∧ 0 ≤ x.i ∧ x.i ≤ 63) ∧ x.k = 6 ∧ x.b < 0) ∨ (((0 ≤ x.r ∧ x.r ≤ 3) ∧ 0 ≤ x.i ∧ x.i ≤ 63) ∧ x.k = 6 ∧ 0 ≤ x.b ∧ 3 < x.b) ∨ (((0 ≤ x.r ∧ x.r ≤ 3) ∧ 0 ≤ x.i ∧ x.i ≤ 63) ∧ x.k = 7 ∧ x.b < 0) ∨ (((0 ≤ x.r ∧ x.r ≤ 3) ∧ 0 ≤ x.i ∧ x.i ≤ 63) ∧ x.k = 7 ∧ 0 ≤ x.b ∧ (n : Int) ≤ x.b) := by
  unfold Ins.Ok at h
  by_cases h0 : 1 ≤ x.k
  · by_cases h1 : x.k ≤ 8
    · by_cases h2 : 0 ≤ x.r
      · by_cases h3 : x.r ≤ 3
        · by_cases h4 : 0 ≤ x.i
          · by_cases h5 : x.i ≤ 63
            · by_cases h6 : x.k = 6
              · by_cases h7 : 0 ≤ x.b
                · exact .inr (.inr (.inr (.inr (.inr (.inr (.inr (.inl ⟨⟨⟨h2, h3⟩, h4, h5⟩, h6, h7, by omega⟩)))))))
                · exact .inr (.inr (.inr (.inr (.inr (.inr (.inl ⟨⟨⟨h2, h3⟩, h4, h5⟩, h6, by omega⟩))))))
              · have h8 : x.k = 7 := by
                  by_cases h9 : x.k = 7
                  · exact h9
                  · exact absurd ⟨⟨h0, h1⟩, ⟨h2, h3⟩, ⟨h4, h5⟩, fun e => absurd e h6, fun e => absurd e h9⟩ h
                by_cases h7 : 0 ≤ x.b
                · refine .inr (.inr (.inr (.inr (.inr (.inr (.inr (.inr (.inr ⟨⟨⟨h2, h3⟩, h4, h5⟩, h8, h7, ?_⟩))))))))
                  by_cases h9 : x.b < n
                  · exact absurd ⟨⟨h0, h1⟩, ⟨h2, h3⟩, ⟨h4, h5⟩, fun e => absurd e h6, fun _ => ⟨h7, h9⟩⟩ h
                  · omega
                · exact .inr (.inr (.inr (.inr (.inr (.inr (.inr (.inr (.inl ⟨⟨⟨h2, h3⟩, h4, h5⟩, h8, by omega⟩))))))))
            · exact .inr (.inr (.inr (.inr (.inr (.inl ⟨⟨h0, h1⟩, ⟨h2, h3⟩, h4, by omega⟩)))))
          · exact .inr (.inr (.inr (.inr (.inl ⟨⟨h0, h1⟩, ⟨h2, h3⟩, by omega⟩))))
        · exact .inr (.inr (.inr (.inl ⟨⟨h0, h1⟩, h2, by omega⟩)))
      · exact .inr (.inr (.inl ⟨⟨h0, h1⟩, by omega⟩))
    · exact .inr (.inl ⟨h0, by omega⟩)
  · exact .inl (by omega)
theorem ok_cases {x : Ins} {n : Nat} (h : x.Ok n) : (((1 ≤ x.k ∧ x.k ≤ 8) ∧ (0 ≤ x.r ∧ x.r ≤ 3) ∧ 0 ≤ x.i ∧ x.i ≤ 63)) ∧ (((x.k = 6) ∧ 0 ≤ x.b ∧ x.b ≤ 3) ∨ (x.k = 7 ∧ 0 ≤ x.b ∧ x.b < n) ∨ ((x.k == 6) = false ∧ (x.k == 7) = false)) := by
  obtain ⟨h1, h2, h3, h4, h5⟩ := h
  refine ⟨⟨h1, h2, h3⟩, ?_⟩
  by_cases h6 : x.k = 6
  · exact .inl ⟨h6, h4 h6⟩
  · by_cases h7 : x.k = 7
    · exact .inr (.inl ⟨h7, h5 h7⟩)
    · exact .inr (.inr ⟨by simpa using h6, by simpa using h7⟩)

set_option maxRecDepth 100000 in
set_option maxHeartbeats 2000000 in
theorem may_is (A : Option Addr) (c : Nat) (p : Pc) (w : World) (h : Prg w A p.prog) (hl : p.prog.length ≤ 1000) (b : Bool) (hb : b = true ↔ p.May) :
    Calls Try.prog 14 #[.agg #[.slice A p.prog.length c, .int .i64 p.at_, .int .u64 (p.rs 0), .int .u64 (p.rs 1), .int .u64 (p.rs 2), .int .u64 (p.rs 3), .bool p.done, .int .i64 p.took]] w fun e w' => e = .returned (.bool b) ∧ Ext w w' := by
  have no (h : ¬ p.May) : b = false := by
    cases b
    · rfl
    · exact absurd (hb.1 rfl) h
  have HB := Lib.hid hb
  have NO := Lib.hid no
  clear hb no
  go_enter Try.func14, Try.ntmps14
  go_wp2_with fail
  go_loopw [12] (fun j wr => Ext (w.alloc (.cells #[.slice A p.prog.length c, .int .i64 p.at_, .int .u64 (p.rs 0), .int .u64 (p.rs 1), .int .u64 (p.rs 2), .int .u64 (p.rs 3), .bool p.done, .int .i64 p.took] 27)) wr ∧ ∃ k : Nat, k ≤ p.prog.length ∧ j = .int .i64 k ∧ Hid (∀ i x, i < k → p.prog[i]? = some x → x.Ok p.prog.length)) (fun j _ => p.prog.length - (intOf j).toNat)
  case atStart => exact ⟨Ext.refl _, 0, Nat.zero_le _, rfl, fun i x hi => by omega⟩
  case round =>
    obtain ⟨hx0, k, hk, rfl, hall⟩ := hrel
    have hx := ((Ext.refl w).new _).step hx0
    by_cases hlt : k < p.prog.length
    · obtain ⟨x, hxk⟩ : ∃ x, p.prog[k]? = some x := ⟨_, List.getElem?_eq_getElem hlt⟩
      obtain ⟨ad, rfl, g0, g1, g2, g3, g4⟩ := (h.to hx).at hxk
      have HX := Lib.hid hxk
      clear hxk
      have hz : w.heap.size < wr.heap.size := by have := hx0.size; simp at this; omega
      by_cases hok : x.Ok p.prog.length
      · have HO := Lib.hid hok
        obtain ⟨⟨⟨k1, k2⟩, ⟨r1, r2⟩, i1, i2⟩, hc⟩ := ok_cases hok
        have HG : Hid (∀ i y, i < k + 1 → p.prog[i]? = some y → y.Ok p.prog.length) := fun i y hi hy => by
          by_cases e : i = k
          · subst e
            rw [HX.out] at hy
            injection hy with hy
            subst hy
            exact HO.out
          · exact hall i y (by omega) hy
        clear hok
        rcases hc with ⟨h6, b1, b2⟩ | ⟨h7, b1, b2⟩ | ⟨h6, h7⟩
        · go_wp2_with fail
          go_roundw
          case rel => exact ⟨hx0.new _, k + 1, by omega, by go_num, HG⟩
          case measure => simp [intOf]; omega
        · go_wp2_with fail
          go_roundw
          case rel => exact ⟨hx0.new _, k + 1, by omega, by go_num, HG⟩
          case measure => simp [intOf]; omega
        · go_wp2_with fail
          go_roundw
          case rel => exact ⟨hx0.new _, k + 1, by omega, by go_num, HG⟩
          case measure => simp [intOf]; omega
      · obtain rfl := NO.out (fun m => hok (m.2.2.2 x (List.mem_of_getElem? HX.out)))
        have hc := not_ok_cases hok
        clear hok
        rcases hc with h1 | ⟨h0, h1⟩ | ⟨⟨h0, h1⟩, h2⟩ | ⟨⟨h0, h1⟩, h2, h3⟩ | ⟨⟨h0, h1⟩, ⟨h2, h3⟩, h4⟩ | ⟨⟨h0, h1⟩, ⟨h2, h3⟩, h4, h5⟩ | ⟨⟨⟨h2, h3⟩, h4, h5⟩, h6, h7⟩ | ⟨⟨⟨h2, h3⟩, h4, h5⟩, h6, h7, h8⟩ | ⟨⟨⟨h2, h3⟩, h4, h5⟩, h6, h7⟩ | ⟨⟨⟨h2, h3⟩, h4, h5⟩, h6, h7, h8⟩
        all_goals go_wp2_with fail
        all_goals go_ret
        all_goals exact ⟨rfl, hx.new _⟩
    · have hpc := (Bx.fresh hx0).cell
      have q1 := hpc 1
      have q7 := hpc 7
      have hz : w.heap.size < wr.heap.size := by have := hx0.size; simp at this; omega
      have HA : Hid (∀ x ∈ p.prog, x.Ok p.prog.length) := fun x hx' => by
        obtain ⟨i, hi⟩ := List.getElem?_of_mem hx'
        have := (List.getElem?_eq_some_iff.1 hi).1
        exact hall i x (by omega) hi
      clear hpc hall
      by_cases c0 : p.prog.length = 0
      · obtain rfl := NO.out (fun m => by have := m.1; omega)
        have e0 : decide ((0 : Int) < (p.prog.length : Int)) = false := by simp only [decide_eq_false_iff_not]; omega
        go_wp2_with fail
        go_ret
        exact ⟨rfl, hx⟩
      · have e0 : decide ((0 : Int) < (p.prog.length : Int)) = true := by simp only [decide_eq_true_eq]; omega
        by_cases c1 : 64 < p.prog.length
        · obtain rfl := NO.out (fun m => by have := m.1; omega)
          have e1 : decide ((p.prog.length : Int) ≤ 64) = false := by simp; omega
          go_wp2_with fail
          go_ret
          exact ⟨rfl, hx⟩
        · have e1 : decide ((p.prog.length : Int) ≤ 64) = true := by simp; omega
          by_cases c2 : p.at_ < 0
          · obtain rfl := NO.out (fun m => by have := m.2.1; omega)
            have e2 : decide ((0 : Int) ≤ p.at_) = false := by simp; omega
            go_wp2_with fail
            go_ret
            exact ⟨rfl, hx⟩
          · have e2 : decide ((0 : Int) ≤ p.at_) = true := by simp; omega
            by_cases c3 : p.prog.length ≤ p.at_
            · obtain rfl := NO.out (fun m => by have := m.2.1; omega)
              have e3 : decide (p.at_ < (p.prog.length : Int)) = false := by simp; omega
              go_wp2_with fail
              go_ret
              exact ⟨rfl, hx⟩
            · have e3 : decide (p.at_ < (p.prog.length : Int)) = true := by simp; omega
              by_cases c4 : p.took < 0
              · obtain rfl := NO.out (fun m => by have := m.2.2.1; omega)
                have e4 : decide ((0 : Int) ≤ p.took) = false := by simp; omega
                go_wp2_with fail
                go_ret
                exact ⟨rfl, hx⟩
              · have e4 : decide ((0 : Int) ≤ p.took) = true := by simp; omega
                by_cases c5 : 1099511627776 < p.took
                · obtain rfl := NO.out (fun m => by have := m.2.2.1; omega)
                  have e5 : decide (p.took ≤ 1099511627776) = false := by simp; omega
                  go_wp2_with fail
                  go_ret
                  exact ⟨rfl, hx⟩
                · obtain rfl : b = true := HB.out.2 ⟨⟨by omega, by omega⟩, ⟨by omega, by omega⟩, ⟨by omega, by omega⟩, HA.out⟩
                  have e5 : decide (p.took ≤ 1099511627776) = true := by simp; omega
                  go_wp2_with fail
                  go_ret
                  exact ⟨rfl, hx⟩

set_option maxHeartbeats 800000 in
theorem all_is (A : Option Addr) (n c : Nat) (vs : List Pv) (w : World) (h : Row w A vs) (hn : vs.length = n) (hn1 : n ≤ 1000) (hl : ∀ v ∈ vs, v.p.prog.length ≤ 1000) (b : Bool) (hb : b = true ↔ (n ≤ 8 ∧ ∀ v ∈ vs, v.p.May)) :
    Calls Try.prog 20 #[.slice A n c] w fun e w' => e = .returned (.bool b) ∧ Ext w w' := by
  have HB := Lib.hid hb
  clear hb
  go_enter Try.func20, Try.ntmps20
  go_wp2_with fail
  go_loopw [7] (fun j wr => Ext w wr ∧ ∃ k : Nat, k ≤ n ∧ j = .int .i64 k ∧ Hid (∀ i v, i < k → vs[i]? = some v → v.p.May)) (fun j _ => n - (intOf j).toNat)
  case atStart => exact ⟨Ext.refl w, 0, Nat.zero_le _, rfl, fun i x hi => by omega⟩
  case round =>
    obtain ⟨hx, k, hk, rfl, hall⟩ := hrel
    by_cases hlt : k < n
    · obtain ⟨v, hvk⟩ : ∃ v, vs[k]? = some v := ⟨_, List.getElem?_eq_getElem (by omega)⟩
      obtain ⟨ad, rfl, g0, g1, g2, g3, g4, g5, g6, g7⟩ := (h.1.to hx).eight hvk
      have HX := Lib.hid hvk
      have hp := (h.2 v (List.mem_of_getElem? hvk)).to hx
      have hl1 := hl v (List.mem_of_getElem? hvk)
      clear hvk
      obtain ⟨ok, hok⟩ : ∃ ok : Bool, ok = true ↔ v.p.May := by
        by_cases hq : v.p.May
        · exact ⟨true, by simp [hq]⟩
        · exact ⟨false, by simp [hq]⟩
      have HI := Lib.hid (fun (W : World) (hW : Ext wr W) => may_is v.A v.c v.p W (hp.to hW) hl1 ok hok)
      have HO := Lib.hid hok
      clear hok
      go_wp2_with fail
      refine (HI.out _ ((Ext.refl wr).new _)).mono ?_; rintro e w1 ⟨rfl, hx1⟩
      have E1 := (hx.new _).step hx1
      cases ok
      · obtain rfl : b = false := by
          cases b
          · rfl
          · exact absurd (HO.out.2 ((HB.out.1 rfl).2 v (List.mem_of_getElem? HX.out))) (by simp)
        go_wp2_with fail
        go_ret
        exact ⟨rfl, E1⟩
      · go_wp2_with fail
        go_roundw
        case rel => exact ⟨E1, k + 1, by omega, by go_num, fun i y hi hy => by
          by_cases e : i = k
          · subst e
            rw [HX.out] at hy
            injection hy with hy
            subst hy
            exact HO.out.1 (by trivial)
          · exact hall i y (by omega) hy⟩
        case measure => simp [intOf]; omega
    · have HA : Hid (∀ v ∈ vs, v.p.May) := fun v hv => by
        obtain ⟨i, hi⟩ := List.getElem?_of_mem hv
        have := (List.getElem?_eq_some_iff.1 hi).1
        exact hall i v (by omega) hi
      by_cases h8 : n ≤ 8
      · obtain rfl : b = true := HB.out.2 ⟨h8, HA.out⟩
        have e1 : decide ((n : Int) ≤ 8) = true := by simp; omega
        go_wp2_with fail
        go_ret
        exact ⟨rfl, hx⟩
      · obtain rfl : b = false := by
          cases b
          · rfl
          · exact absurd (HB.out.1 rfl).1 h8
        have e1 : decide ((n : Int) ≤ 8) = false := by simp; omega
        go_wp2_with fail
        go_ret
        exact ⟨rfl, hx⟩

end Go.Proofs.Yteiabmbfjfaboaa
