/-
  What the calls say of a key that has a place.
-/
import Derived.Test.YtjiehlhnocgneaaOrV
set_option linter.unusedVariables false
set_option linter.unusedSimpArgs false
namespace Go.Proofs.Ytjiehlhnocgneaa
open Go.RowKit

theorem lo_at {l : Row} (hs : Srt l) {P : Nat} {y : Int × Int} (hy : l[P]? = some y) : (lo l y.1).length = P := by
  obtain ⟨q, hq, e, h1, h2⟩ := lo_take hs y.1
  have hP := (List.getElem?_eq_some_iff.1 hy).1
  rw [e, List.length_take]
  rcases Nat.lt_trichotomy q P with h | h | h
  · obtain ⟨b, hb⟩ : ∃ b, l[q]? = some b := ⟨_, List.getElem?_eq_getElem (by omega)⟩
    have := h2 q b (Nat.le_refl _) hb
    have := srt_get hs hb hy h
    omega
  · omega
  · have := h1 P y h hy
    omega
theorem upto_at {l : Row} (hs : Srt l) {P : Nat} {y : Int × Int} (hy : l[P]? = some y) : (upto l y.1).length = P + 1 := by
  have h := upto_len hs y.1
  rw [lo_at hs hy] at h
  rcases h with ⟨v, _, h⟩ | ⟨h, _⟩
  · exact h
  · exact absurd hy (h y.2)
/-- An item that is there. -/
def ItemOk (a b : Int) (w : World) (e : Ending) (w' : World) : Prop := e = .returned (.tuple #[.agg #[.int .i64 a, .int .i64 b], .int .i64 0]) ∧ Ext w w'
theorem ItemS.ok {a b : Int} {o : Option (Int × Int)} {w : World} {e : Ending} {w' : World} (h : ItemS o w e w') (ho : o = some (a, b)) : ItemOk a b w e w' := by
  obtain ⟨x, y, k, rfl, hs, hx⟩ := h
  subst ho
  rcases hs with ⟨h, _⟩ | ⟨h, rfl⟩
  · cases h
  · injection h with h
    injection h with h1 h2
    subst h1 h2
    exact ⟨rfl, hx⟩
/-- Or none. -/
theorem ItemS.no {o : Option (Int × Int)} {w : World} {e : Ending} {w' : World} (h : ItemS o w e w') (ho : o = none) : ItemE 3 w e w' := by
  obtain ⟨x, y, k, rfl, hs, hx⟩ := h
  subst ho
  rcases hs with ⟨_, rfl, rfl, rfl⟩ | ⟨h, _⟩
  · exact ⟨rfl, hx⟩
  · cases h
section
variable {W : World} {A B : Option Addr} {n m c d : Nat} {ns : List Nd} {fs : List Int} {z : Int} {l : Row}
theorem av_at_ok (h : Av W A n B m ns fs) (hM : MapV ns z l) {P : Nat} {a b : Int} (hy : l[P]? = some (a, b)) : ∀ W', Ext W W' → Calls Try.prog 30 #[.agg #[.slice A n c, .slice B m d], .int .u64 z, .int .i64 P] W' (ItemOk a b W') := fun W' hx =>
  (av_at (c := c) (d := d) h hM P W' hx).mono fun e w' g => g.ok (by unfold atR; rw [if_neg (by omega), Int.toNat_natCast]; exact hy)
theorem av_rank_ok (h : Av W A n B m ns fs) (hM : MapV ns z l) {P : Nat} {a b : Int} (hy : l[P]? = some (a, b)) : ∀ W', Ext W W' → Calls Try.prog 31 #[.agg #[.slice A n c, .slice B m d], .int .u64 z, .int .i64 a] W' (IntE P 0 W') := fun W' hx => by
  have := av_rank (c := c) (d := d) h hM a W' hx
  rw [lo_at (y := (a, b)) hM.srt hy] at this
  exact this
theorem av_ceil_ok (h : Av W A n B m ns fs) (hM : MapV ns z l) {P : Nat} {a b : Int} (hy : l[P]? = some (a, b)) : ∀ W', Ext W W' → Calls Try.prog 33 #[.agg #[.slice A n c, .slice B m d], .int .u64 z, .int .i64 a] W' (ItemOk a b W') := fun W' hx =>
  (av_ceil (c := c) (d := d) h hM a W' hx).mono fun e w' g => g.ok (by rw [lo_at (y := (a, b)) hM.srt hy]; exact hy)
theorem av_floor_ok (h : Av W A n B m ns fs) (hM : MapV ns z l) {P : Nat} {a b : Int} (hy : l[P]? = some (a, b)) : ∀ W', Ext W W' → Calls Try.prog 32 #[.agg #[.slice A n c, .slice B m d], .int .u64 z, .int .i64 a] W' (ItemOk a b W') := fun W' hx =>
  (av_floor (c := c) (d := d) h hM a W' hx).mono fun e w' g => g.ok (by rw [upto_at (y := (a, b)) hM.srt hy, if_neg (by omega), Nat.add_sub_cancel]; exact hy)
end
theorem lo_mono {l : Row} (hs : Srt l) {a b : Int} (h : a ≤ b) : (lo l a).length ≤ (lo l b).length := by
  have e : lo l a = (lo l b).filter (fun x => x.1 < a) := by
    unfold lo
    rw [List.filter_filter]
    apply List.filter_congr
    intro x _
    by_cases hx : x.1 < a
    · have : x.1 < b := by omega
      simp [hx, this]
    · simp [hx]
  rw [e]
  exact List.length_filter_le _ _
/-- A number brought into a range. -/
theorem cut_is {n : Nat} (h0 : 0 < n) (hn : n ≤ 100) (q : Int) : ∃ P : Nat, P < n ∧ (wrap64 (q.tmod (n : Int) + (n : Int))).tmod (n : Int) = (P : Int) := by
  have h1 : -(n : Int) < q.tmod n := Int.lt_tmod_of_pos q (by omega)
  have h2 : q.tmod n < n := Int.tmod_lt_of_pos q (by omega)
  have e : wrap64 (q.tmod (n : Int) + (n : Int)) = q.tmod n + n := by
    unfold wrap64; omega
  rw [e]
  have h3 : 0 ≤ (q.tmod n + n).tmod n := Int.tmod_nonneg _ (by omega)
  have h4 : (q.tmod n + n).tmod n < n := Int.tmod_lt_of_pos _ (by omega)
  exact ⟨((q.tmod n + n).tmod n).toNat, by omega, by omega⟩

end Go.Proofs.Ytjiehlhnocgneaa
