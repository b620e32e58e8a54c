/-
  Contracts: which nodes may be, as the program tells it (rightParts, rightNode).
-/
import Derived.Test.YtmfpgbiicncpcaaNode
set_option linter.unusedVariables false
set_option linter.unusedSimpArgs false
namespace Go.Proofs.Ytmfpgbiicncpcaa
open Go.RowKit

/-- A reference that may be. -/
abbrev RefMay (r : Int) : Prop := r = 0 ∨ Node r
/-- References are 64 bits. -/
def Nd.Ok (x : Nd) : Prop := ∀ r ∈ x.kids, 0 ≤ r ∧ r ≤ 18446744073709551615
abbrev Small (n : Int) : Prop := 0 ≤ n ∧ n ≤ 9
def Nd.Parts (x : Nd) : Prop := Small x.pre ∧ Small x.suf ∧ ∀ r ∈ x.kids, RefMay r
instance (x : Nd) : Decidable x.Parts := inferInstanceAs (Decidable (_ ∧ _ ∧ _))

theorem up_is (n : Int) (w : World) :
    Calls Try.prog 41 #[.int .i64 n] w fun e w' => e = .returned (.bool (decide (Small n))) ∧ w = w' := by
  by_cases h : Small n
  · rw [decide_eq_true h]
    obtain ⟨h1, h2⟩ := h
    go_enter Try.func41, Try.ntmps41
    go_wp2
    go_ret
    exact ⟨rfl, rfl⟩
  · rw [decide_eq_false h]
    by_cases h1 : 0 ≤ n
    · have h2 : ¬ n ≤ 9 := fun k => h ⟨h1, k⟩
      clear h
      go_enter Try.func41, Try.ntmps41
      go_wp2
      go_ret
      exact ⟨rfl, rfl⟩
    · clear h
      go_enter Try.func41, Try.ntmps41
      go_wp2
      go_ret
      exact ⟨rfl, rfl⟩

theorem refmay_is (r : Int) (w : World) (h0 : 0 ≤ r) (h1 : r ≤ 18446744073709551615) (b : Bool) (hb : b = decide (RefMay r)) :
    Calls Try.prog 49 #[.int .u64 r] w fun e w' => e = .returned (.bool b) ∧ w = w' := by
  by_cases h : r = 0
  · subst h
    obtain rfl : b = true := by simpa using hb
    exact Right_zero w
  · have e : decide (RefMay r) = decide (Node r) := decide_eq_decide.mpr ⟨fun x => x.resolve_left h, .inr⟩
    rw [hb, e]
    exact Right_not r w h0 h1 h

theorem wrong_is (r : Int) (w : World) (h0 : 0 ≤ r) (h1 : r ≤ 18446744073709551615) (b : Bool) (hb : b = decide (RefMay r)) :
    Calls Try.prog 43 #[.int .u64 r] w fun e w' => e = .returned (.bool (!b)) ∧ w = w' := by
  have HB := Lib.hid hb
  clear hb
  go_enter Try.func43, Try.ntmps43
  go_wp2_with fail
  refine (refmay_is r _ h0 h1 b HB.out).mono ?_; rintro e w1 ⟨rfl, rfl⟩
  go_wp2_with fail
  go_ret
  exact ⟨rfl, rfl⟩

/-- What IndexFunc tells: -1 just if all may be. -/
def Told (b : Bool) (w : World) (e : Ending) (w' : World) : Prop := (∃ j : Int, e = .returned (.int .i64 j) ∧ (b = true → j = -1) ∧ (b = false → 0 ≤ j)) ∧ w = w'

set_option maxHeartbeats 800000 in
theorem index_is (ad : Addr) (n c : Nat) (zs : List Int) (w : World) (hn : n ≤ 100) (h : Rd w 1 (some ad) n (Us zs)) (hz : ∀ z ∈ zs, 0 ≤ z ∧ z ≤ 18446744073709551615) (b : Bool) (hb : b = true ↔ ∀ z ∈ zs, RefMay z) :
    Calls Try.prog 48 #[.slice (some ad) n c, .func (.func 43) #[] #[]] w (Told b w) := by
  have HB := Lib.hid hb
  have HZ := Lib.hid hz
  have hl := Lib.hid h.u64len
  clear hb hz
  go_enter Try.func48, Try.ntmps48
  go_wp2_with fail
  go_loopw [5, 8] (fun _ j wr => wr = w ∧ ∃ k : Nat, k ≤ n ∧ j = .int .i64 k ∧ Hid (∀ i z, i < k → zs[i]? = some z → RefMay z)) (fun _ j _ => n - (intOf j).toNat)
  case atStart => exact ⟨rfl, 0, Nat.zero_le _, rfl, fun i z hi => by omega⟩
  case round =>
    obtain ⟨rfl, k, hk, rfl, hall⟩ := hrel
    by_cases hlt : k < n
    · have hc := h.u64 hlt
      have hm : ith zs k ∈ zs := List.mem_of_getElem? (ith_of zs (by rw [hl.out]; exact hlt))
      obtain ⟨z0, z1⟩ := HZ.out _ hm
      have HI := Lib.hid (ith_of zs (i := k) (by rw [hl.out]; exact hlt))
      clear hm
      generalize ith zs k = z at *
      obtain ⟨ok, hok⟩ : ∃ ok : Bool, ok = decide (RefMay z) := ⟨_, rfl⟩
      have HO := Lib.hid hok
      clear hok
      go_wp2_with fail
      refine (wrong_is z _ z0 z1 ok HO.out).mono ?_; rintro e w1 ⟨rfl, rfl⟩
      cases ok
      · obtain rfl : b = false := by
          cases b
          · rfl
          · have := HB.out.1 rfl z (List.mem_of_getElem? HI.out)
            have e := HO.out
            rw [decide_eq_true this] at e
            cases e
        go_wp2_with fail
        go_ret
        exact ⟨⟨_, rfl, by simp, by simp⟩, rfl⟩
      · go_wp2_with fail
        go_roundw
        case rel => exact ⟨trivial, k + 1, by omega, by go_num, fun i y hi hy => by
          by_cases e : i = k
          · subst e
            rw [HI.out] at hy
            injection hy with hy
            subst hy
            exact of_decide_eq_true HO.out.symm
          · exact hall i y (by omega) hy⟩
        case measure => simp [intOf]; omega
    · obtain rfl : b = true := HB.out.2 fun z hz => by
        obtain ⟨i, hi⟩ := List.getElem?_of_mem hz
        have := (List.getElem?_eq_some_iff.1 hi).1
        exact hall i z (by have := hl.out; omega) hi
      go_wp2_with fail
      go_ret
      exact ⟨⟨_, rfl, by simp, by simp⟩, rfl⟩

theorem contains_is (ad : Addr) (n c : Nat) (zs : List Int) (w : World) (hn : n ≤ 100) (h : Rd w 1 (some ad) n (Us zs)) (hz : ∀ z ∈ zs, 0 ≤ z ∧ z ≤ 18446744073709551615) (b : Bool) (hb : b = true ↔ ∀ z ∈ zs, RefMay z) :
    Calls Try.prog 42 #[.slice (some ad) n c, .func (.func 43) #[] #[]] w fun e w' => e = .returned (.bool (!b)) ∧ w = w' := by
  have HB := Lib.hid hb
  have HZ := Lib.hid hz
  clear hb hz
  go_enter Try.func42, Try.ntmps42
  go_wp2_with fail
  refine (index_is ad n c zs _ hn h HZ.out b HB.out).mono ?_; rintro e w1 ⟨⟨j, rfl, h1, h2⟩, rfl⟩
  cases b
  · have := h2 rfl
    clear h1 h2
    go_wp2_with fail
    go_ret
    exact ⟨rfl, rfl⟩
  · obtain rfl := h1 rfl
    clear h1 h2
    go_wp2_with fail
    go_ret
    exact ⟨rfl, rfl⟩

theorem Bx.kids {W : World} {b : Nat} {x : Nd} (h : Bx W b x.arr) : Rd W 1 (some ⟨b, 5, none⟩) 9 (Us x.kids) := by
  refine ⟨rfl, fun j u hu => ⟨_, rfl, ?_⟩⟩
  have hj : j < 9 := (List.getElem?_eq_some_iff.1 hu).1
  rw [Addr.add_mid, h.cell, Nd.arr_get]
  have : x.cells[5 + j]? = (Us x.kids)[j]? := by
    rcases (by omega : j = 0 ∨ j = 1 ∨ j = 2 ∨ j = 3 ∨ j = 4 ∨ j = 5 ∨ j = 6 ∨ j = 7 ∨ j = 8) with rfl | rfl | rfl | rfl | rfl | rfl | rfl | rfl | rfl <;> rfl
  rw [this, hu]

set_option maxHeartbeats 800000 in
theorem rightParts_is (x : Nd) (w : World) (hx : x.Ok) :
    Calls Try.prog 27 #[.agg x.arr] w fun e w' => e = .returned (.bool (decide x.Parts)) ∧ Ext w w' := by
  obtain ⟨b1, e1⟩ : ∃ b1, b1 = decide (Small x.pre) := ⟨_, rfl⟩
  obtain ⟨b2, e2⟩ : ∃ b2, b2 = decide (Small x.suf) := ⟨_, rfl⟩
  obtain ⟨b3, e3⟩ : ∃ b3, b3 = decide (∀ r ∈ x.kids, RefMay r) := ⟨_, rfl⟩
  have e4 : decide x.Parts = (b1 && (b2 && b3)) := by
    rw [e1, e2, e3, Bool.eq_iff_iff]
    simp only [Bool.and_eq_true, decide_eq_true_eq]
    exact Iff.rfl
  have H3 := Lib.hid (show b3 = true ↔ ∀ r ∈ x.kids, RefMay r by rw [e3, decide_eq_true_eq])
  rw [e4]
  have HU1 := Lib.hid (fun W => e1 ▸ up_is x.pre W)
  have HU2 := Lib.hid (fun W => e2 ▸ up_is x.suf W)
  have HX := Lib.hid hx
  clear e1 e2 e3 e4 hx
  have B := Bx.new w x.arr 30
  have k14 : (w.alloc (.cells x.arr 30)).cell? ⟨w.heap.size, 14, none⟩ = some (.int .i64 x.pre) := B.cell 14
  have k15 : (w.alloc (.cells x.arr 30)).cell? ⟨w.heap.size, 15, none⟩ = some (.int .i64 x.suf) := B.cell 15
  have K := Lib.hid B.kids
  clear B
  have hxt : Ext w (w.alloc (.cells x.arr 30)) := (Ext.refl w).new _
  go_enter Try.func27, Try.ntmps27
  go_wp2_with fail
  refine (HU1.out _).mono ?_; rintro e w1 ⟨rfl, rfl⟩
  cases b1
  · go_wp2_with fail
    go_ret
    exact ⟨rfl, hxt⟩
  · go_wp2_with fail
    refine (HU2.out _).mono ?_; rintro e w1 ⟨rfl, rfl⟩
    cases b2
    · go_wp2_with fail
      go_ret
      exact ⟨rfl, hxt⟩
    · go_wp2_with fail
      refine (contains_is _ 9 9 x.kids _ (by omega) K.out HX.out b3 H3.out).mono ?_; rintro e w1 ⟨rfl, rfl⟩
      go_wp2_with fail
      go_ret
      exact ⟨by simp, hxt⟩

end Go.Proofs.Ytmfpgbiicncpcaa
