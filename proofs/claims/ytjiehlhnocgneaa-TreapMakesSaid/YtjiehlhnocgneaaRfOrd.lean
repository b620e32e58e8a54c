/-
  Contracts of the document's answers on rows: whether a row is in order (Ordered), a key's place (At).
-/
import Derived.Test.YtjiehlhnocgneaaRfTop
set_option linter.unusedVariables false
set_option linter.unusedSimpArgs false
namespace Go.Proofs.Ytjiehlhnocgneaa
open Go.RowKit

theorem srt_step {l : Row} {k : Nat} {y x : Int × Int} (hs : Srt (l.take (k + 1))) (hy : l[k]? = some y) (hx : l[k + 1]? = some x) (h : y.1 < x.1) : Srt (l.take (k + 1 + 1)) := by
  rw [List.take_add_one, hx]
  show Srt (l.take (k + 1) ++ [x])
  rw [Srt.app]
  refine ⟨hs, by simp [Srt], fun a ha b hb => ?_⟩
  simp at hb
  subst hb
  rw [List.take_add_one, hy] at ha hs
  rcases List.mem_append.1 ha with ha | ha
  · have := (Srt.app.1 hs).2.2 a ha y (by simp)
    omega
  · simp at ha
    rw [ha]
    exact h

set_option maxHeartbeats 2000000 in
theorem ordered_is (A : Option Addr) (n c : Nat) (l : Row) (w : World) (h : RdI w A n l) (hn : n ≤ 1000) (b : Bool) (hb : b = true ↔ Srt l) :
    Calls Try.prog 35 #[.slice A n c] w fun e w' => e = .returned (.bool b) ∧ Ext w w' := by
  have hl := Lib.hid h.len
  have HH := Lib.hid h
  have HB := Lib.hid hb
  clear h hb
  go_enter Try.func35, Try.ntmps35
  go_wp2_with fail
  go_loopw [3] (fun j wr => Hid (Ext w wr) ∧ ∃ k : Nat, (k < n ∨ k = 0) ∧ j = .int .i64 (k + 1 : Nat) ∧ Hid (Srt (l.take (k + 1)))) (fun j _ => n - (intOf j).toNat)
  case atStart => exact ⟨Lib.hid (Ext.refl _), 0, .inr rfl, rfl, Lib.hid (by
    cases l with
    | nil => simp [Srt]
    | cons x l => simp [Srt])⟩
  case round =>
    obtain ⟨hx, k, hk, rfl, hs⟩ := hrel
    rename World => w4
    by_cases hlt : k + 1 < n
    · obtain ⟨x, hxk⟩ : ∃ x, l[k + 1]? = some x := ⟨_, List.getElem?_eq_getElem (by have := hl.out; omega)⟩
      obtain ⟨y, hyk⟩ : ∃ y, l[k]? = some y := ⟨_, List.getElem?_eq_getElem (by have := hl.out; omega)⟩
      obtain ⟨ad, rfl, hit⟩ := HH.out.item hxk
      obtain ⟨ad', e', hit'⟩ := HH.out.item hyk
      injection e' with e'
      obtain rfl : ad = ad' := e'
      obtain ⟨x1, x2⟩ := x
      obtain ⟨y1, y2⟩ := y
      have c0 := (hit.to hx.out).1
      have c1 := (hit'.to hx.out).1
      simp only at c0 c1
      have e1 : IntKind.i64.wrap (((k + 1 : Nat) : Int) - 1) = (k : Int) := by rw [IntKind.wrap_i64]; omega
      have hkn : k < n := by omega
      have hnk : ¬ n ≤ k := by omega
      have hnk1 : ¬ n ≤ k + 1 := by omega
      have HX := Lib.hid hxk
      have HY := Lib.hid hyk
      clear hxk hyk hit hit' hk
      by_cases hge : x1 ≤ y1
      · have HF := Lib.hid (show b = false by
          cases b
          · rfl
          · have := srt_get (HB.out.1 rfl) HY.out HX.out (by omega)
            simp at this
            omega)
        go_wp2_with fail
        go_quiet (fail)
        clear c0 c1 e1
        go_wp2_with fail
        go_ret
        exact ⟨by rw [HF.out]; rfl, hx.out.step ((Ext.refl _).drewN _)⟩
      · have HS := Lib.hid (srt_step hs.out HY.out HX.out (by simp; omega))
        go_wp2_with fail
        go_quiet (fail)
        clear c0 c1 e1
        go_wp2_with fail
        go_roundw
        case rel => exact ⟨Lib.hid (hx.out.step ((Ext.refl _).drewN _)), k + 1, .inl hlt, by go_num, HS⟩
        case measure => simp [intOf]; omega
    · have HF := Lib.hid (show b = true from HB.out.2 (by
        have := hs.out
        rwa [List.take_of_length_le (by have := hl.out; omega)] at this))
      clear hs
      have hge : n ≤ k + 1 := by omega
      go_wp2_with fail
      go_ret
      exact ⟨by rw [HF.out]; rfl, hx.out⟩

def AtA (l : Row) (key : Int) (w : World) (e : Ending) (w' : World) : Prop :=
  ((¬ HasK l key ∧ e = .returned (.int .i64 (-1))) ∨ ∃ (j : Nat) (v : Int), l[j]? = some (key, v) ∧ e = .returned (.int .i64 j)) ∧ Ext w w'

set_option maxHeartbeats 2000000 in
theorem rfAt_is (A : Option Addr) (n c : Nat) (l : Row) (key : Int) (w : World) (h : RdI w A n l) (hn : n ≤ 1000) :
    Calls Try.prog 19 #[.slice A n c, .int .i64 key] w (AtA l key w) := by
  have hl := Lib.hid h.len
  have HH := Lib.hid h
  clear h
  go_enter Try.func19, Try.ntmps19
  go_wp2_with fail
  go_loopw [9, 5, 6] (fun j _ _ wr => Hid (Ext w wr) ∧ ∃ k : Nat, k ≤ n ∧ j = .int .i64 k ∧ Hid (∀ (i : Nat) (x : Int × Int), i < k → l[i]? = some x → x.1 ≠ key)) (fun j _ _ _ => n - (intOf j).toNat)
  case atStart => exact ⟨Lib.hid (Ext.refl _), 0, Nat.zero_le _, rfl, Lib.hid (fun i x hi => by omega)⟩
  case round =>
    obtain ⟨hx, k, hk, rfl, hno⟩ := hrel
    rename World => w4
    by_cases hlt : k < n
    · obtain ⟨x, hxk⟩ : ∃ x, l[k]? = some x := ⟨_, List.getElem?_eq_getElem (by have := hl.out; omega)⟩
      obtain ⟨ad, rfl, hit⟩ := HH.out.item hxk
      obtain ⟨x1, x2⟩ := x
      obtain ⟨c0, c1⟩ := hit.to hx.out
      have HX := Lib.hid hxk
      have hx1 := Lib.hid (hx.out.new (.cells #[.int .i64 x1, .int .i64 x2] 60))
      simp only at c0 c1
      clear hxk hit
      by_cases hkey : x1 = key
      · subst hkey
        have HF := Lib.hid (show AtA l x1 w (.returned (.int .i64 k)) (w4.alloc (.cells #[.int .i64 x1, .int .i64 x2] 60)) from ⟨.inr ⟨k, x2, HX.out, rfl⟩, hx1.out⟩)
        go_wp2_with fail
        go_ret
        exact HF.out
      · have hk2 : (x1 == key) = false := by simp [hkey]
        have HN := Lib.hid (show ∀ (i : Nat) (x : Int × Int), i < k + 1 → l[i]? = some x → x.1 ≠ key from fun i x hi hxi => by
          by_cases e : i = k
          · subst e
            rw [HX.out] at hxi
            injection hxi with hxi
            subst hxi
            exact hkey
          · exact hno.out i x (by omega) hxi)
        clear hkey hno
        go_wp2_with fail
        go_roundw
        case rel => exact ⟨hx1, k + 1, by omega, by go_num, HN⟩
        case measure => simp [intOf]; omega
    · have HF := Lib.hid (show AtA l key w (.returned (.int .i64 (-1))) w4 from ⟨.inl ⟨by
        rintro ⟨v, hv⟩
        obtain ⟨i, hi⟩ := List.getElem?_of_mem hv
        exact hno.out i _ (by have := (List.getElem?_eq_some_iff.1 hi).1; have := hl.out; omega) hi rfl, rfl⟩, hx.out⟩)
      have hge : n ≤ k := by omega
      clear hno
      go_wp2_with fail
      go_ret
      exact HF.out

end Go.Proofs.Ytjiehlhnocgneaa
