/-
  Contracts of package machine: a whole step.
-/
import Derived.Test.YteiabmbfjfaboaaDo
set_option linter.unusedVariables false
set_option linter.unusedSimpArgs false
namespace Go.Proofs.Yteiabmbfjfaboaa
open Go.RowKit

theorem do_is (ad : Addr) (c : Nat) (ws : List Int) (x : Ins) (rs : Nat → Int) (w : World) (h : Rd w 1 (some ad) 64 (Us ws)) (n : Nat) (hok : x.Ok n) :
    Calls Try.prog 32 #[.slice (some ad) 64 c, .agg #[.int .i64 x.k, .int .i64 x.r, .int .i64 x.i, .int .u64 x.a, .int .i64 x.b], .agg #[.int .u64 (rs 0), .int .u64 (rs 1), .int .u64 (rs 2), .int .u64 (rs 3)]] w fun e w' =>
      ∃ A' c', e = .returned (.tuple #[.slice A' 64 c', .agg #[.int .u64 ((upd rs x.r.toNat (regOf x rs ws)) 0), .int .u64 ((upd rs x.r.toNat (regOf x rs ws)) 1), .int .u64 ((upd rs x.r.toNat (regOf x rs ws)) 2), .int .u64 ((upd rs x.r.toNat (regOf x rs ws)) 3)]]) ∧ Rd w' 1 A' 64 (Us (wordsOf x rs ws)) ∧ Ext w w' ∧ ∀ q, A' = some q → q = ad ∨ w.heap.size ≤ q.block := by
  obtain ⟨⟨hk1, hk8⟩, ⟨hr0, hr3⟩, ⟨hi0, hi63⟩, h6, h7⟩ := hok
  obtain ⟨r, hr⟩ := Int.eq_ofNat_of_zero_le hr0
  obtain ⟨i, hi⟩ := Int.eq_ofNat_of_zero_le hi0
  have hr4 : r < 4 := by omega
  have hi4 : i < 64 := by omega
  have er : x.r.toNat = r := by omega
  have ei : x.i.toNat = i := by omega
  have hl : i < ws.length := by rw [h.u64len]; exact hi4
  rw [er]
  have word (hk4 : x.k ≤ 4) (rs' : Nat → Int) (ws' : List Int) (hrs : rs' = upd rs r (regOf x rs ws)) (hws : ws' = wordsOf x rs ws)
      (HD : ∀ W, Ext w W → Calls Try.prog 33 #[.slice (some ad) 64 c, .agg #[.int .i64 x.k, .int .i64 x.r, .int .i64 x.i, .int .u64 x.a, .int .i64 x.b], .agg #[.int .u64 (rs 0), .int .u64 (rs 1), .int .u64 (rs 2), .int .u64 (rs 3)]] W fun e w' =>
        ∃ A' c', e = .returned (.tuple #[.slice A' 64 c', .agg #[.int .u64 (rs' 0), .int .u64 (rs' 1), .int .u64 (rs' 2), .int .u64 (rs' 3)]]) ∧ Rd w' 1 A' 64 (Us ws') ∧ Ext W w' ∧ ∀ q, A' = some q → W.heap.size ≤ q.block) :
      Calls Try.prog 32 #[.slice (some ad) 64 c, .agg #[.int .i64 x.k, .int .i64 x.r, .int .i64 x.i, .int .u64 x.a, .int .i64 x.b], .agg #[.int .u64 (rs 0), .int .u64 (rs 1), .int .u64 (rs 2), .int .u64 (rs 3)]] w fun e w' =>
        ∃ A' c', e = .returned (.tuple #[.slice A' 64 c', .agg #[.int .u64 ((upd rs r (regOf x rs ws)) 0), .int .u64 ((upd rs r (regOf x rs ws)) 1), .int .u64 ((upd rs r (regOf x rs ws)) 2), .int .u64 ((upd rs r (regOf x rs ws)) 3)]]) ∧ Rd w' 1 A' 64 (Us (wordsOf x rs ws)) ∧ Ext w w' ∧ ∀ q, A' = some q → q = ad ∨ w.heap.size ≤ q.block := by
    subst hrs hws
    exact (do_word ad c ws x rs w hk4 _ _ HD).mono fun _ _ ⟨A', c', he, hr, hx, hf⟩ => ⟨A', c', he, hr, hx, fun q hq => .inr (hf q hq)⟩
  have stay (rs' : Nat → Int) (hrs : rs' = upd rs r (regOf x rs ws)) (hws : wordsOf x rs ws = ws)
      (HD : Calls Try.prog 32 #[.slice (some ad) 64 c, .agg #[.int .i64 x.k, .int .i64 x.r, .int .i64 x.i, .int .u64 x.a, .int .i64 x.b], .agg #[.int .u64 (rs 0), .int .u64 (rs 1), .int .u64 (rs 2), .int .u64 (rs 3)]] w fun e w' => e = .returned (.tuple #[.slice (some ad) 64 c, .agg #[.int .u64 (rs' 0), .int .u64 (rs' 1), .int .u64 (rs' 2), .int .u64 (rs' 3)]]) ∧ Ext w w') :
      Calls Try.prog 32 #[.slice (some ad) 64 c, .agg #[.int .i64 x.k, .int .i64 x.r, .int .i64 x.i, .int .u64 x.a, .int .i64 x.b], .agg #[.int .u64 (rs 0), .int .u64 (rs 1), .int .u64 (rs 2), .int .u64 (rs 3)]] w fun e w' =>
        ∃ A' c', e = .returned (.tuple #[.slice A' 64 c', .agg #[.int .u64 ((upd rs r (regOf x rs ws)) 0), .int .u64 ((upd rs r (regOf x rs ws)) 1), .int .u64 ((upd rs r (regOf x rs ws)) 2), .int .u64 ((upd rs r (regOf x rs ws)) 3)]]) ∧ Rd w' 1 A' 64 (Us (wordsOf x rs ws)) ∧ Ext w w' ∧ ∀ q, A' = some q → q = ad ∨ w.heap.size ≤ q.block := by
    subst hrs
    rw [hws]
    exact HD.mono fun _ _ ⟨he, hx⟩ => ⟨_, _, he, h.to hx, hx, fun q hq => .inl (by injection hq with hq; exact hq.symm)⟩
  have hch (now ans : Int) (hk2 : x.k ≠ 2) (hk4 : x.k ≤ 4) (hc : change x.k x.a (rs r) (ith ws i) = some (now, ans)) (hrs : ans = regOf x rs ws) (hws : ws.set i now = wordsOf x rs ws) := by
    refine word hk4 (upd rs r ans) (ws.set i now) (by rw [hrs]) hws fun W hW => ?_
    exact onWord_1 ad c ws x rs W (h.to hW) i r hi hr hi4 hr4 (by simpa using hk2) (by simpa using hk2) now ans hc
  have same : ws.set i (ith ws i) = ws := by
    apply List.ext_getElem?
    intro j
    by_cases e : i = j
    · subst e
      rw [List.getElem?_set_self hl, ith_of ws hl]
    · rw [List.getElem?_set_ne e]
  rcases (by omega : x.k = 1 ∨ x.k = 2 ∨ x.k = 3 ∨ x.k = 4 ∨ x.k = 5 ∨ x.k = 6 ∨ x.k = 7 ∨ x.k = 8) with hk | hk | hk | hk | hk | hk | hk | hk
  · refine hch (ith ws i) (ith ws i) (by omega) (by omega) (by rw [hk]; rfl) (by simp [regOf, hk, ei]) (by rw [same]; simp [wordsOf, hk])
  · refine word (by omega) rs (ws.set i (rs r)) ?_ (by simp [wordsOf, hk, er, ei]) fun W hW => onWord_2 ad c ws x rs W (h.to hW) i r hi hr hi4 hr4 hk
    rw [show regOf x rs ws = rs r by simp [regOf, hk, er], upd_self]
  · by_cases ho : ith ws i = x.a
    · exact hch (rs r) 1 (by omega) (by omega) (by rw [hk]; simp [change, ho]) (by simp [regOf, hk, ei, ho]) (by simp [wordsOf, hk, er, ei, ho])
    · exact hch (ith ws i) 0 (by omega) (by omega) (by rw [hk]; simp [change, ho]) (by simp [regOf, hk, ei, ho]) (by rw [same]; simp [wordsOf, hk, er, ei, ho])
  · exact hch (IntKind.u64.wrap (ith ws i + x.a)) (ith ws i) (by omega) (by omega) (by rw [hk]; simp [change]) (by simp [regOf, hk, ei]) (by simp [wordsOf, hk, er, ei])
  · refine stay _ (by rw [show regOf x rs ws = x.a by simp [regOf, hk]]) (by simp [wordsOf, hk]) ?_
    rcases (by omega : r = 0 ∨ r = 1 ∨ r = 2 ∨ r = 3) with rfl | rfl | rfl | rfl
    · exact do_set_0 ad c ws x rs w hk hr
    · exact do_set_1 ad c ws x rs w hk hr
    · exact do_set_2 ad c ws x rs w hk hr
    · exact do_set_3 ad c ws x rs w hk hr
  · obtain ⟨hb0, hb3⟩ := h6 hk
    obtain ⟨b, hb⟩ := Int.eq_ofNat_of_zero_le hb0
    have eb : x.b.toNat = b := by omega
    have hb4 : b < 4 := by omega
    refine stay _ (by rw [show regOf x rs ws = IntKind.u64.wrap (rs r + rs b) by simp [regOf, hk, er, eb]]) (by simp [wordsOf, hk]) ?_
    rcases (by omega : r = 0 ∨ r = 1 ∨ r = 2 ∨ r = 3) with rfl | rfl | rfl | rfl <;> rcases (by omega : b = 0 ∨ b = 1 ∨ b = 2 ∨ b = 3) with rfl | rfl | rfl | rfl
    · exact do_sum_0_0 ad c ws x rs w hk hr hb
    · exact do_sum_0_1 ad c ws x rs w hk hr hb
    · exact do_sum_0_2 ad c ws x rs w hk hr hb
    · exact do_sum_0_3 ad c ws x rs w hk hr hb
    · exact do_sum_1_0 ad c ws x rs w hk hr hb
    · exact do_sum_1_1 ad c ws x rs w hk hr hb
    · exact do_sum_1_2 ad c ws x rs w hk hr hb
    · exact do_sum_1_3 ad c ws x rs w hk hr hb
    · exact do_sum_2_0 ad c ws x rs w hk hr hb
    · exact do_sum_2_1 ad c ws x rs w hk hr hb
    · exact do_sum_2_2 ad c ws x rs w hk hr hb
    · exact do_sum_2_3 ad c ws x rs w hk hr hb
    · exact do_sum_3_0 ad c ws x rs w hk hr hb
    · exact do_sum_3_1 ad c ws x rs w hk hr hb
    · exact do_sum_3_2 ad c ws x rs w hk hr hb
    · exact do_sum_3_3 ad c ws x rs w hk hr hb
  · refine stay rs ?_ (by simp [wordsOf, hk]) (do_none_7 ad c ws x rs w hk)
    rw [show regOf x rs ws = rs r by simp [regOf, hk, er], upd_self]
  · refine stay rs ?_ (by simp [wordsOf, hk]) (do_none_8 ad c ws x rs w hk)
    rw [show regOf x rs ws = rs r by simp [regOf, hk, er], upd_self]

section
variable (A : Option Addr) (c : Nat) (p : Pc) (x : Ins) (w : World)
set_option maxHeartbeats 800000 in
theorem behind_end (hk : x.k = 8) : Calls Try.prog 31 #[.agg #[.int .i64 x.k, .int .i64 x.r, .int .i64 x.i, .int .u64 x.a, .int .i64 x.b], .agg #[.slice A p.prog.length c, .int .i64 p.at_, .int .u64 (p.rs 0), .int .u64 (p.rs 1), .int .u64 (p.rs 2), .int .u64 (p.rs 3), .bool p.done, .int .i64 p.took]] w fun e w' => e = .returned (.int .i64 p.prog.length) ∧ Ext w w' := by
  go_enter Try.func31, Try.ntmps31
  go_wp2_with fail
  go_ret
  exact ⟨rfl, ((Ext.refl w).new _).new _⟩
set_option maxHeartbeats 800000 in
theorem behind_go (hk : (x.k == 8) = false) (hk7 : (x.k == 7) = false) (h0 : 0 ≤ p.at_) (h1 : p.at_ < 64) : Calls Try.prog 31 #[.agg #[.int .i64 x.k, .int .i64 x.r, .int .i64 x.i, .int .u64 x.a, .int .i64 x.b], .agg #[.slice A p.prog.length c, .int .i64 p.at_, .int .u64 (p.rs 0), .int .u64 (p.rs 1), .int .u64 (p.rs 2), .int .u64 (p.rs 3), .bool p.done, .int .i64 p.took]] w fun e w' => e = .returned (.int .i64 (p.at_ + 1)) ∧ Ext w w' := by
  go_enter Try.func31, Try.ntmps31
  go_wp2_with fail
  go_ret
  exact ⟨by go_num, ((Ext.refl w).new _).new _⟩
set_option maxHeartbeats 800000 in
theorem behind_yes (hk : x.k = 7) (r : Nat) (hr : x.r = r) (hr4 : r < 4) (hz : (p.rs r == 0) = true) : Calls Try.prog 31 #[.agg #[.int .i64 x.k, .int .i64 x.r, .int .i64 x.i, .int .u64 x.a, .int .i64 x.b], .agg #[.slice A p.prog.length c, .int .i64 p.at_, .int .u64 (p.rs 0), .int .u64 (p.rs 1), .int .u64 (p.rs 2), .int .u64 (p.rs 3), .bool p.done, .int .i64 p.took]] w fun e w' => e = .returned (.int .i64 x.b) ∧ Ext w w' := by
  rcases (by omega : r = 0 ∨ r = 1 ∨ r = 2 ∨ r = 3) with rfl | rfl | rfl | rfl
  all_goals
    go_enter Try.func31, Try.ntmps31
    go_wp2_with fail
    go_ret
    exact ⟨rfl, ((Ext.refl w).new _).new _⟩
set_option maxHeartbeats 800000 in
theorem behind_not (hk : x.k = 7) (r : Nat) (hr : x.r = r) (hr4 : r < 4) (hz : (p.rs r == 0) = false) (h0 : 0 ≤ p.at_) (h1 : p.at_ < 64) : Calls Try.prog 31 #[.agg #[.int .i64 x.k, .int .i64 x.r, .int .i64 x.i, .int .u64 x.a, .int .i64 x.b], .agg #[.slice A p.prog.length c, .int .i64 p.at_, .int .u64 (p.rs 0), .int .u64 (p.rs 1), .int .u64 (p.rs 2), .int .u64 (p.rs 3), .bool p.done, .int .i64 p.took]] w fun e w' => e = .returned (.int .i64 (p.at_ + 1)) ∧ Ext w w' := by
  rcases (by omega : r = 0 ∨ r = 1 ∨ r = 2 ∨ r = 3) with rfl | rfl | rfl | rfl
  all_goals
    go_enter Try.func31, Try.ntmps31
    go_wp2_with fail
    go_ret
    exact ⟨by go_num, ((Ext.refl w).new _).new _⟩
theorem behind_is (n : Nat) (hok : x.Ok n) (h0 : 0 ≤ p.at_) (h1 : p.at_ < 64) : Calls Try.prog 31 #[.agg #[.int .i64 x.k, .int .i64 x.r, .int .i64 x.i, .int .u64 x.a, .int .i64 x.b], .agg #[.slice A p.prog.length c, .int .i64 p.at_, .int .u64 (p.rs 0), .int .u64 (p.rs 1), .int .u64 (p.rs 2), .int .u64 (p.rs 3), .bool p.done, .int .i64 p.took]] w fun e w' => e = .returned (.int .i64 (nextOf x p.rs p.at_ p.prog.length)) ∧ Ext w w' := by
  obtain ⟨_, ⟨hr0, hr3⟩, _⟩ := hok
  obtain ⟨r, hr⟩ := Int.eq_ofNat_of_zero_le hr0
  have er : x.r.toNat = r := by omega
  unfold nextOf
  split
  · rename_i hk
    exact behind_end A c p x w hk
  · rename_i h8
    split
    · rename_i h
      exact behind_yes A c p x w h.1 r hr (by omega) (by rw [er] at h; simpa using h.2)
    · rename_i h
      by_cases hk : x.k = 7
      · exact behind_not A c p x w hk r hr (by omega) (by rw [er] at h; simpa [hk] using h) h0 h1
      · exact behind_go A c p x w (by simpa using h8) (by simpa using hk) h0 h1
end

end Go.Proofs.Yteiabmbfjfaboaa
