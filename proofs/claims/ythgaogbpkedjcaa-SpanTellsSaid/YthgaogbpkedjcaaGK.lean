/-
  Texts in one: RfOrd RfPut RfDel.
-/
import Derived.Test.YthgaogbpkedjcaaGI

/-
  Contracts of the document's answers on rows: whether a row is in order (Ordered), a key's place (At).
-/
set_option linter.unusedVariables false
set_option linter.unusedSimpArgs false
namespace Go.Proofs.Ythgaogbpkedjcaa
open Go.RowKit

theorem srt_step {l : Row} {k : Nat} {y x : Int × Int} (hs : Srt (l.take (k + 1))) (hy : l[k]? = some y) (hx : l[k + 1]? = some x) (h : y.1 < x.1) : Srt (l.take (k + 1 + 1)) := by
  rw [List.take_add_one, hx]
  show Srt (l.take (k + 1) ++ [x])
  rw [Srt.app]
  refine ⟨hs, by simp [Srt], fun a ha b hb => ?_⟩
  simp at hb
  subst hb
  rw [List.take_add_one, hy] at ha hs
  rcases List.mem_append.1 ha with ha | ha
  · have := (Srt.app.1 hs).2.2 a ha y (by simp)
    omega
  · simp at ha
    rw [ha]
    exact h

set_option maxHeartbeats 2000000 in
theorem ordered_is (A : Option Addr) (n c : Nat) (l : Row) (w : World) (h : RdI w A n l) (hn : n ≤ 1000) (b : Bool) (hb : b = true ↔ Srt l) :
    Calls Try.prog 30 #[.slice A n c] w fun e w' => e = .returned (.bool b) ∧ Ext w w' := by
  have hl := Lib.hid h.len
  have HH := Lib.hid h
  have HB := Lib.hid hb
  clear h hb
  go_enter Try.func30, Try.ntmps30
  go_wp2_with fail
  go_loopw [3] (fun j wr => Hid (Ext w wr) ∧ ∃ k : Nat, (k < n ∨ k = 0) ∧ j = .int .i64 (k + 1 : Nat) ∧ Hid (Srt (l.take (k + 1)))) (fun j _ => n - (intOf j).toNat)
  case atStart => exact ⟨Lib.hid (Ext.refl _), 0, .inr rfl, rfl, Lib.hid (by
    cases l with
    | nil => simp [Srt]
    | cons x l => simp [Srt])⟩
  case round =>
    obtain ⟨hx, k, hk, rfl, hs⟩ := hrel
    rename World => w4
    by_cases hlt : k + 1 < n
    · obtain ⟨x, hxk⟩ : ∃ x, l[k + 1]? = some x := ⟨_, List.getElem?_eq_getElem (by have := hl.out; omega)⟩
      obtain ⟨y, hyk⟩ : ∃ y, l[k]? = some y := ⟨_, List.getElem?_eq_getElem (by have := hl.out; omega)⟩
      obtain ⟨ad, rfl, hit⟩ := HH.out.item hxk
      obtain ⟨ad', e', hit'⟩ := HH.out.item hyk
      injection e' with e'
      obtain rfl : ad = ad' := e'
      obtain ⟨x1, x2⟩ := x
      obtain ⟨y1, y2⟩ := y
      have c0 := (hit.to hx.out).1
      have c1 := (hit'.to hx.out).1
      simp only at c0 c1
      have e1 : IntKind.i64.wrap (((k + 1 : Nat) : Int) - 1) = (k : Int) := by rw [IntKind.wrap_i64]; omega
      have hkn : k < n := by omega
      have hnk : ¬ n ≤ k := by omega
      have hnk1 : ¬ n ≤ k + 1 := by omega
      have HX := Lib.hid hxk
      have HY := Lib.hid hyk
      clear hxk hyk hit hit' hk
      by_cases hge : x1 ≤ y1
      · have HF := Lib.hid (show b = false by
          cases b
          · rfl
          · have := srt_get (HB.out.1 rfl) HY.out HX.out (by omega)
            simp at this
            omega)
        go_wp2_with fail
        go_quiet (fail)
        clear c0 c1 e1
        go_wp2_with fail
        go_ret
        exact ⟨by rw [HF.out]; rfl, hx.out.step ((Ext.refl _).drewN _)⟩
      · have HS := Lib.hid (srt_step hs.out HY.out HX.out (by simp; omega))
        go_wp2_with fail
        go_quiet (fail)
        clear c0 c1 e1
        go_wp2_with fail
        go_roundw
        case rel => exact ⟨Lib.hid (hx.out.step ((Ext.refl _).drewN _)), k + 1, .inl hlt, by go_num, HS⟩
        case measure => simp [intOf]; omega
    · have HF := Lib.hid (show b = true from HB.out.2 (by
        have := hs.out
        rwa [List.take_of_length_le (by have := hl.out; omega)] at this))
      clear hs
      have hge : n ≤ k + 1 := by omega
      go_wp2_with fail
      go_ret
      exact ⟨by rw [HF.out]; rfl, hx.out⟩

def AtA (l : Row) (key : Int) (w : World) (e : Ending) (w' : World) : Prop :=
  ((¬ HasK l key ∧ e = .returned (.int .i64 (-1))) ∨ ∃ (j : Nat) (v : Int), l[j]? = some (key, v) ∧ e = .returned (.int .i64 j)) ∧ Ext w w'

end Go.Proofs.Ythgaogbpkedjcaa

/-
  Contract of the document's answers on rows: a row in which a key has a value (Put).
-/
set_option linter.unusedVariables false
set_option linter.unusedSimpArgs false
namespace Go.Proofs.Ythgaogbpkedjcaa
open Go.RowKit

theorem putR_more {l : Row} {key v : Int} {x : Int × Int} (h : key < x.1) : putR (l ++ [x]) key v = putR l key v ++ [x] := by
  have h1 : ¬ x.1 < key := by omega
  simp [putR, lo, hi, List.filter_append, h, h1]
theorem putR_all {l : Row} {key v : Int} (h : ∀ y ∈ l, y.1 < key) : putR l key v = l ++ [(key, v)] := by
  have h1 : lo l key = l := List.filter_eq_self.2 (fun y hy => by simpa using h y hy)
  have h2 : hi l key = [] := List.filter_eq_nil_iff.2 (fun y hy => by have := h y hy; simp; omega)
  simp [putR, h1, h2]
theorem putR_eq {l : Row} {key v u : Int} (h : ∀ y ∈ l, y.1 < key) : putR (l ++ [(key, u)]) key v = l ++ [(key, v)] := by
  have h1 : lo l key = l := List.filter_eq_self.2 (fun y hy => by simpa using h y hy)
  have h2 : hi l key = [] := List.filter_eq_nil_iff.2 (fun y hy => by have := h y hy; simp; omega)
  have h3 : lo (l ++ [(key, u)]) key = lo l key ++ lo [(key, u)] key := List.filter_append _ _
  have h4 : hi (l ++ [(key, u)]) key = hi l key ++ hi [(key, u)] key := List.filter_append _ _
  have h5 : lo [(key, u)] key = [] := by simp [lo]
  have h6 : hi [(key, u)] key = [] := by simp [hi]
  simp [putR, h1, h2, h3, h4, h5, h6]

/-- Up to place k: not put yet, or put. -/
def PutS (l : Row) (key v : Int) (k : Nat) (d : Bool) (o : Row) : Prop :=
  (d = false ∧ o = l.take k ∧ ∀ y ∈ l.take k, y.1 < key) ∨ (d = true ∧ o = putR (l.take k) key v ∧ ∃ y ∈ l.take k, key ≤ y.1)
theorem take_snoc {l : Row} {k : Nat} {x : Int × Int} (hx : l[k]? = some x) : l.take (k + 1) = l.take k ++ [x] := by
  rw [List.take_add_one, hx]; rfl
theorem PutS.lt {l : Row} {key v : Int} {k : Nat} {o : Row} {x : Int × Int} (h : PutS l key v k false o) (hx : l[k]? = some x) (hlt : x.1 < key) : PutS l key v (k + 1) false (o ++ [x]) := by
  rcases h with ⟨_, rfl, h⟩ | ⟨h, _⟩
  · refine .inl ⟨rfl, (take_snoc hx).symm, ?_⟩
    rw [take_snoc hx]
    intro y hy
    rcases List.mem_append.1 hy with hy | hy
    · exact h y hy
    · simp at hy; rw [hy]; exact hlt
  · cases h
theorem PutS.eq {l : Row} {key v : Int} {k : Nat} {o : Row} {u : Int} (h : PutS l key v k false o) (hx : l[k]? = some (key, u)) : PutS l key v (k + 1) true (o ++ [(key, v)]) := by
  rcases h with ⟨_, rfl, h⟩ | ⟨h, _⟩
  · refine .inr ⟨rfl, ?_, ?_⟩
    · rw [take_snoc hx, putR_eq h]
    · rw [take_snoc hx]
      exact ⟨(key, u), List.mem_append.2 (.inr (by simp)), Int.le_refl _⟩
  · cases h
theorem PutS.gt {l : Row} {key v : Int} {k : Nat} {o : Row} {x : Int × Int} (h : PutS l key v k false o) (hx : l[k]? = some x) (hgt : key < x.1) : PutS l key v (k + 1) true (o ++ [(key, v)] ++ [x]) := by
  rcases h with ⟨_, rfl, h⟩ | ⟨h, _⟩
  · refine .inr ⟨rfl, ?_, ?_⟩
    · rw [take_snoc hx, putR_more hgt, putR_all h]
    · rw [take_snoc hx]
      exact ⟨x, List.mem_append.2 (.inr (by simp)), by omega⟩
  · cases h
theorem PutS.gone {l : Row} {key v : Int} {k : Nat} {o : Row} {x : Int × Int} (hs : Srt l) (h : PutS l key v k true o) (hx : l[k]? = some x) : key < x.1 ∧ PutS l key v (k + 1) true (o ++ [x]) := by
  rcases h with ⟨h, _⟩ | ⟨_, rfl, y, hy, hk⟩
  · cases h
  · obtain ⟨i, hi⟩ := List.getElem?_of_mem hy
    have hik : i < k := by have := (List.getElem?_eq_some_iff.1 hi).1; simp at this; omega
    rw [List.getElem?_take_of_lt hik] at hi
    have h1 : key < x.1 := by have := srt_get hs hi hx hik; omega
    refine ⟨h1, .inr ⟨rfl, ?_, y, ?_, hk⟩⟩
    · rw [take_snoc hx, putR_more h1]
    · rw [take_snoc hx]
      exact List.mem_append.2 (.inl hy)
theorem PutS.end_ {l : Row} {key v : Int} {o : Row} {n : Nat} (h : PutS l key v n true o) (hn : l.length ≤ n) : o = putR l key v := by
  rcases h with ⟨h, _⟩ | ⟨_, rfl, _⟩
  · cases h
  · rw [List.take_of_length_le hn]
theorem PutS.end0 {l : Row} {key v : Int} {o : Row} {n : Nat} (h : PutS l key v n false o) (hn : l.length ≤ n) : o ++ [(key, v)] = putR l key v := by
  rcases h with ⟨_, rfl, h⟩ | ⟨h, _⟩
  · rw [List.take_of_length_le hn] at h ⊢
    rw [putR_all h]
  · cases h
theorem PutS.len {l : Row} {key v : Int} {k : Nat} {d : Bool} {o : Row} (h : PutS l key v k d o) : o.length ≤ k + 1 := by
  rcases h with ⟨_, rfl, _⟩ | ⟨_, rfl, _⟩
  · have := List.length_take_le k l; omega
  · have h1 : (putR (l.take k) key v).length ≤ (l.take k).length + 1 := by
      have h2 : ∀ m : Row, (lo m key).length + (hi m key).length ≤ m.length := by
        intro m
        induction m with
        | nil => simp [lo, hi]
        | cons x m ih =>
          unfold lo hi at *
          simp only [List.filter_cons]
          by_cases h1 : x.1 < key
          · have h2 : ¬ key < x.1 := by omega
            simp [h1, h2]; omega
          · by_cases h2 : key < x.1
            · simp [h1, h2]; omega
            · simp [h1, h2]; omega
      have := h2 (l.take k)
      simp only [putR, List.length_append, List.length_cons]; omega
    have := List.length_take_le k l
    omega

/-- The row that is being made. -/
def OutX (w : World) (base : Nat) (ex : List Nat) (s : Value) (o : Row) : Prop := RowX w base ex 40 2 s o.length (flat itc o)

set_option maxHeartbeats 3200000 in
set_option maxRecDepth 100000 in
theorem rfPut_is (A : Option Addr) (n c : Nat) (l : Row) (key v : Int) (w : World) (h : RdI w A n l) (hn : n ≤ 1000) (hs : Srt l) :
    Calls Try.prog 19 #[.slice A n c, .int .i64 key, .int .i64 v] w (RowA (putR l key v) w) := by
  have hl := Lib.hid h.len
  have HH := Lib.hid h
  have HSRT := Lib.hid hs
  obtain ⟨i0, hi0, hz0, hz1, hz2⟩ := info_parts item_info
  clear h hs
  go_enter Try.func19, Try.ntmps19
  go_wp2_with fail
  go_loopw [14, 7, 8, 10] (fun j s d _ wr => Hid (Ext w wr) ∧ ∃ (k : Nat) (b : Bool) (o : Row), k ≤ n ∧ j = .int .i64 k ∧ d = .bool b ∧ Hid (OutX wr w.heap.size [] s o) ∧ Hid (PutS l key v k b o)) (fun j _ _ _ _ => n - (intOf j).toNat)
  case atStart => exact ⟨Lib.hid ((Ext.refl _).new _), 0, false, [], Nat.zero_le _, rfl, rfl, Lib.hid (RowX.nil _ _ _ _ _ _), Lib.hid (.inl ⟨rfl, rfl, fun y hy => by simp at hy⟩)⟩
  case round =>
    obtain ⟨hx, k, b, o, hk, rfl, rfl, hO, hP⟩ := hrel
    rename World => w4
    by_cases hlt : k < n
    · obtain ⟨x, hxk⟩ : ∃ x, l[k]? = some x := ⟨_, List.getElem?_eq_getElem (by have := hl.out; omega)⟩
      obtain ⟨ad, rfl, hit⟩ := HH.out.item hxk
      obtain ⟨x1, x2⟩ := x
      obtain ⟨c0, c1⟩ := hit.to hx.out
      have HX := Lib.hid hxk
      obtain ⟨w5, hw5⟩ : ∃ w5, w5 = w4.alloc (.cells #[.int .i64 x1, .int .i64 x2] 40) := ⟨_, rfl⟩
      obtain ⟨B5, hx5, hs5⟩ := box_made hw5
      have H5 := Lib.hid hw5
      have HB5 := Lib.hid B5
      have X5 := Lib.hid (hx.out.step hx5)
      have HO5 := Lib.hid (show OutX w5 w.heap.size [w4.heap.size] _ o from RowX.add hO.out hx5 (Nat.le_refl _))
      have hlt5 := Lib.hid (show ∀ b ∈ [w4.heap.size], b < w5.heap.size by intro b hb; simp at hb; subst hb; exact B5.lt)
      have HS5 := Lib.hid hs5
      have hb5 := Lib.hid (show w.heap.size ≤ w5.heap.size from X5.out.size)
      have hlen := hP.out.len
      simp only at c0 c1
      obtain ⟨m, hm⟩ : ∃ m, m = o.length := ⟨_, rfl⟩
      have HM := Lib.hid hm
      rw [← hm] at hlen
      have hm1 : m ≤ 1001 := by omega
      unfold OutX at HO5
      rw [← hm] at HO5
      clear hxk hit hw5 B5 hx5 hs5 hO hlen hm
      have hkn : ¬ n ≤ k := by omega
      cases b with
      | true =>
        obtain ⟨hgt, hP'⟩ := hP.out.gone HSRT.out HX.out
        have HP' := Lib.hid hP'
        have hgt' : key < x1 := hgt
        have hne : ¬ x1 = key := by omega
        clear hgt hP'
        obtain ⟨w6, hw6⟩ : ∃ w6, w6 = w5.alloc (.cells #[.int .i64 x1, .int .i64 x2] 40) := ⟨_, rfl⟩
        obtain ⟨B_, hx_, hs_⟩ := box_made hw6
        have Hw6 := Lib.hid hw6
        have HRw6 := Lib.hid (show RdI w6 (some ⟨w4.heap.size + 1, 0, none⟩) 1 [(x1, x2)] by rw [hw6, ← HS5.out]; exact Rd.lit w5 #[.int .i64 x1, .int .i64 x2] 40 1 rfl)
        have HOw6 := Lib.hid (HO5.out.to hx_)
        have Xw6 := Lib.hid (X5.out.step hx_)
        have hbw6 := Lib.hid (show w.heap.size ≤ w6.heap.size from Xw6.out.size)
        have hltw6 := Lib.hid (show ∀ b ∈ [w4.heap.size], b < w6.heap.size by intro b hb; have := hlt5.out b hb; have := hx_.size; omega)
        clear hw6 hs_
        clear B_ hx_
        go_wp2_with (first
          | (at_builtin
             rw [← H5.out, ← Hw6.out]
             refine wpList_append_x _ rfl (.tmp 36) (.tmp 38) _ rfl 40 i0 _ 2 16 Try.underlying31 hi0 hz0 hz1 hz2 rfl (by omega) w.heap.size [w4.heap.size] _ m (flat itc o) rfl HOw6.out (some ⟨w4.heap.size + 1, 0, none⟩) 1 1 (flat itc [(x1, x2)]) rfl HRw6.out (flat_one itc_one _) (by simp only [maxLen]; omega) (by omega) hbw6.out hltw6.out ?_
             intro A7 c7 w7 hr7 ap7
             have HX7 := Lib.hid (ap7.old w Xw6.out (Nat.le_refl _))
             have HR7 := Lib.hid (show OutX w7 w.heap.size [] (.slice A7 (m + 1 : Nat) c7) (o ++ [(x1, x2)]) by
               unfold OutX
               rw [List.length_append, ← HM.out, ← flat_append]
               exact hr7.sub (fun b hb => by cases hb))
             clear hr7 ap7))
        go_roundw
        case rel => exact ⟨HX7, k + 1, _, o ++ [(x1, x2)], by omega, by go_num, rfl, HR7, HP'⟩
        case measure => simp [intOf]; omega
      | false =>
        by_cases hlt1 : x1 < key
        · have HP' := Lib.hid (hP.out.lt HX.out hlt1)
          have hne : ¬ x1 = key := by omega
          have hge : ¬ key ≤ x1 := by omega
          obtain ⟨w6, hw6⟩ : ∃ w6, w6 = w5.alloc (.cells #[.int .i64 x1, .int .i64 x2] 40) := ⟨_, rfl⟩
          obtain ⟨B_, hx_, hs_⟩ := box_made hw6
          have Hw6 := Lib.hid hw6
          have HRw6 := Lib.hid (show RdI w6 (some ⟨w4.heap.size + 1, 0, none⟩) 1 [(x1, x2)] by rw [hw6, ← HS5.out]; exact Rd.lit w5 #[.int .i64 x1, .int .i64 x2] 40 1 rfl)
          have HOw6 := Lib.hid (HO5.out.to hx_)
          have Xw6 := Lib.hid (X5.out.step hx_)
          have hbw6 := Lib.hid (show w.heap.size ≤ w6.heap.size from Xw6.out.size)
          have hltw6 := Lib.hid (show ∀ b ∈ [w4.heap.size], b < w6.heap.size by intro b hb; have := hlt5.out b hb; have := hx_.size; omega)
          clear hw6 hs_
          clear B_ hx_
          go_wp2_with (first
            | (at_builtin
               rw [← H5.out, ← Hw6.out]
               refine wpList_append_x _ rfl (.tmp 36) (.tmp 38) _ rfl 40 i0 _ 2 16 Try.underlying31 hi0 hz0 hz1 hz2 rfl (by omega) w.heap.size [w4.heap.size] _ m (flat itc o) rfl HOw6.out (some ⟨w4.heap.size + 1, 0, none⟩) 1 1 (flat itc [(x1, x2)]) rfl HRw6.out (flat_one itc_one _) (by simp only [maxLen]; omega) (by omega) hbw6.out hltw6.out ?_
               intro A7 c7 w7 hr7 ap7
               have HX7 := Lib.hid (ap7.old w Xw6.out (Nat.le_refl _))
               have HR7 := Lib.hid (show OutX w7 w.heap.size [] (.slice A7 (m + 1 : Nat) c7) (o ++ [(x1, x2)]) by
                 unfold OutX
                 rw [List.length_append, ← HM.out, ← flat_append]
                 exact hr7.sub (fun b hb => by cases hb))
               clear hr7 ap7))
          go_roundw
          case rel => exact ⟨HX7, k + 1, _, o ++ [(x1, x2)], by omega, by go_num, rfl, HR7, HP'⟩
          case measure => simp [intOf]; omega
        · have hge : key ≤ x1 := by omega
          obtain ⟨w6, hw6⟩ : ∃ w6, w6 = w5.alloc (.cells #[.int .i64 key, .int .i64 v] 40) := ⟨_, rfl⟩
          obtain ⟨B_, hx_, hs_⟩ := box_made hw6
          have Hw6 := Lib.hid hw6
          have HRw6 := Lib.hid (show RdI w6 (some ⟨w4.heap.size + 1, 0, none⟩) 1 [(key, v)] by rw [hw6, ← HS5.out]; exact Rd.lit w5 #[.int .i64 key, .int .i64 v] 40 1 rfl)
          have HOw6 := Lib.hid (HO5.out.to hx_)
          have Xw6 := Lib.hid (X5.out.step hx_)
          have HBw6 := Lib.hid (HB5.out.to hx_)
          have hbw6 := Lib.hid (show w.heap.size ≤ w6.heap.size from Xw6.out.size)
          have hltw6 := Lib.hid (show ∀ b ∈ [w4.heap.size], b < w6.heap.size by intro b hb; have := hlt5.out b hb; have := hx_.size; omega)
          clear hw6 hs_ hlt1
          clear B_ hx_
          by_cases hne : x1 = key
          · subst hne
            have HP' := Lib.hid (hP.out.eq HX.out)
            go_wp2_with (first
              | (at_builtin
                 rw [← H5.out, ← Hw6.out]
                 refine wpList_append_x _ rfl (.tmp 26) (.tmp 30) _ rfl 40 i0 _ 2 16 Try.underlying31 hi0 hz0 hz1 hz2 rfl (by omega) w.heap.size [w4.heap.size] _ m (flat itc o) rfl HOw6.out (some ⟨w4.heap.size + 1, 0, none⟩) 1 1 (flat itc [(x1, v)]) rfl HRw6.out (flat_one itc_one _) (by simp only [maxLen]; omega) (by omega) hbw6.out hltw6.out ?_
                 intro A7 c7 w7 hr7 ap7
                 have HX7 := Lib.hid (ap7.old w Xw6.out (Nat.le_refl _))
                 have b0 : w7.cell? ⟨w4.heap.size, 0, none⟩ = some (.int .i64 x1) := (ap7.keep _ _ (by simp) HBw6.out).cell 0
                 have HR7 := Lib.hid (show OutX w7 w.heap.size [] (.slice A7 (m + 1 : Nat) c7) (o ++ [(x1, v)]) by
                   unfold OutX
                   rw [List.length_append, ← HM.out, ← flat_append]
                   exact hr7.sub (fun b hb => by cases hb))
                 clear hr7 ap7 c0 c1))
            go_roundw
            case rel => exact ⟨HX7, k + 1, _, o ++ [(x1, v)], by omega, by go_num, rfl, HR7, HP'⟩
            case measure => simp [intOf]; omega
          · have hgt : key < x1 := by omega
            have HP' := Lib.hid (hP.out.gt HX.out hgt)
            go_wp2_with (first
              | (at_builtin
                 rw [← H5.out, ← Hw6.out]
                 refine wpList_append_x _ rfl (.tmp 26) (.tmp 30) _ rfl 40 i0 _ 2 16 Try.underlying31 hi0 hz0 hz1 hz2 rfl (by omega) w.heap.size [w4.heap.size] _ m (flat itc o) rfl HOw6.out (some ⟨w4.heap.size + 1, 0, none⟩) 1 1 (flat itc [(key, v)]) rfl HRw6.out (flat_one itc_one _) (by simp only [maxLen]; omega) (by omega) hbw6.out hltw6.out ?_
                 intro A7 c7 w7 hr7 ap7
                 have HX7 := Lib.hid (ap7.old w Xw6.out (Nat.le_refl _))
                 have HB7 := Lib.hid (ap7.keep _ _ (by simp) HBw6.out)
                 have b0 : w7.cell? ⟨w4.heap.size, 0, none⟩ = some (.int .i64 x1) := HB7.out.cell 0
                 have b1 : w7.cell? ⟨w4.heap.size, 1, none⟩ = some (.int .i64 x2) := HB7.out.cell 1
                 obtain ⟨w8, hw8⟩ : ∃ w8, w8 = w7.alloc (.cells #[.int .i64 x1, .int .i64 x2] 40) := ⟨_, rfl⟩
                 obtain ⟨B_, hx_, hs_⟩ := box_made hw8
                 have Hw8 := Lib.hid hw8
                 have HRw8 := Lib.hid (show RdI w8 (some ⟨w7.heap.size, 0, none⟩) 1 [(x1, x2)] by rw [hw8]; exact Rd.lit w7 #[.int .i64 x1, .int .i64 x2] 40 1 rfl)
                 have HR7 := Lib.hid (show RowX w8 w.heap.size [w4.heap.size] 40 2 (.slice A7 (m + 1 : Nat) c7) (m + 1) (flat itc o ++ flat itc [(key, v)]) from hr7.to hx_)
                 have Xw8 := Lib.hid (HX7.out.step hx_)
                 have hbw8 := Lib.hid (show w.heap.size ≤ w8.heap.size from Xw8.out.size)
                 have hltw8 := Lib.hid (show ∀ b ∈ [w4.heap.size], b < w8.heap.size by intro b hb; have h1 := HB7.out.lt; have h2 := hx_.size; simp at hb; subst hb; omega)
                 clear hr7 ap7 c0 c1 hw8 hs_
                 clear B_ hx_)
              | (at_builtin
                 rw [← Hw8.out]
                 refine wpList_append_x _ rfl (.tmp 36) (.tmp 38) _ rfl 40 i0 _ 2 16 Try.underlying31 hi0 hz0 hz1 hz2 rfl (by omega) w.heap.size [w4.heap.size] _ (m + 1) (flat itc o ++ flat itc [(key, v)]) rfl HR7.out (some ⟨w7.heap.size, 0, none⟩) 1 1 (flat itc [(x1, x2)]) rfl HRw8.out (flat_one itc_one _) (by simp only [maxLen]; omega) (by omega) hbw8.out hltw8.out ?_
                 intro A9 c9 w9 hr9 ap9
                 have HX9 := Lib.hid (ap9.old w Xw8.out (Nat.le_refl _))
                 have HR9 := Lib.hid (show OutX w9 w.heap.size [] (.slice A9 (m + 1 + 1 : Nat) c9) (o ++ [(key, v)] ++ [(x1, x2)]) by
                   unfold OutX
                   rw [List.length_append, List.length_append, ← HM.out, ← flat_append, ← flat_append]
                   exact hr9.sub (fun b hb => by cases hb))
                 clear hr9 ap9 b0 b1))
            go_roundw
            case rel => exact ⟨HX9, k + 1, _, o ++ [(key, v)] ++ [(x1, x2)], by omega, by go_num, rfl, HR9, HP'⟩
            case measure => simp [intOf]; omega
    · have hge : n ≤ k := by omega
      have hkn : k = n := by omega
      subst hkn
      cases b with
      | true =>
        have he := hP.out.end_ (by have := hl.out; omega)
        obtain ⟨A', c', hs', h1, h2⟩ := RowX.slice hO.out
        subst hs'
        have HF : RowA (putR l key v) w (.returned (.slice A' (o.length : Nat) c')) w4 := by
          rw [← he]
          exact ⟨A', c', rfl, RowX.rd hO.out, h1, h2, hx.out⟩
        have HF := Lib.hid HF
        clear he hO hP
        go_wp2_with fail
        go_ret
        exact HF.out
      | false =>
        have he := hP.out.end0 (by have := hl.out; omega)
        have hlen := hP.out.len
        obtain ⟨w5, hw5⟩ : ∃ w5, w5 = w4.alloc (.cells #[.int .i64 key, .int .i64 v] 40) := ⟨_, rfl⟩
        obtain ⟨B_, hx_, hs_⟩ := box_made hw5
        have Hw5 := Lib.hid hw5
        have HRw5 := Lib.hid (show RdI w5 (some ⟨w4.heap.size, 0, none⟩) 1 [(key, v)] by rw [hw5]; exact Rd.lit w4 #[.int .i64 key, .int .i64 v] 40 1 rfl)
        have HOw5 := Lib.hid (RowX.to hO.out hx_)
        have Xw5 := Lib.hid (hx.out.step hx_)
        have hbw5 := Lib.hid (show w.heap.size ≤ w5.heap.size from Xw5.out.size)
        have HE := Lib.hid he
        obtain ⟨m, hm⟩ : ∃ m, m = o.length := ⟨_, rfl⟩
        have HM := Lib.hid hm
        rw [← hm] at hlen HOw5
        have hm1 : m ≤ 1001 := by omega
        clear hw5 hs_ hP hO he hlen hm
        clear B_ hx_
        go_wp2_with (first
          | (at_builtin
             rw [← Hw5.out]
             refine wpList_append_x _ rfl (.tmp 43) (.tmp 47) _ rfl 40 i0 _ 2 16 Try.underlying31 hi0 hz0 hz1 hz2 rfl (by omega) w.heap.size [] _ m (flat itc o) rfl HOw5.out (some ⟨w4.heap.size, 0, none⟩) 1 1 (flat itc [(key, v)]) rfl HRw5.out (flat_one itc_one _) (by simp only [maxLen]; omega) (by omega) hbw5.out (fun b hb => by cases hb) ?_
             intro A7 c7 w7 hr7 ap7
             have HF := Lib.hid (show RowA (putR l key v) w (.returned (.slice A7 (m + 1 : Nat) c7)) w7 by
               have h1 : (putR l key v).length = m + 1 := by rw [← HE.out, List.length_append, ← HM.out]; rfl
               obtain ⟨A', c', hs', h2, h3⟩ := hr7.slice
               injection hs' with e1 e2 e3
               subst e1; subst e3
               refine ⟨A7, c7, by rw [h1], ?_, by omega, h3, ap7.old w Xw5.out (Nat.le_refl _)⟩
               rw [h1, ← HE.out, RdI, ← flat_append]
               exact hr7.rd)
             clear hr7 ap7))
        go_ret
        exact HF.out
end Go.Proofs.Ythgaogbpkedjcaa

/-
  Contracts of the document's answers on rows: a row without a key (Del), those below a key (Below).
-/
set_option linter.unusedVariables false
set_option linter.unusedSimpArgs false
namespace Go.Proofs.Ythgaogbpkedjcaa
open Go.RowKit

end Go.Proofs.Ythgaogbpkedjcaa
