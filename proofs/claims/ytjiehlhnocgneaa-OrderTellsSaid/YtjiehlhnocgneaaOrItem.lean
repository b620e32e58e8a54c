/-
  What an item says; how many keys are below one, and up to one.
-/
import Derived.Test.YtjiehlhnocgneaaOrAlive
set_option linter.unusedVariables false
set_option linter.unusedSimpArgs false
namespace Go.Proofs.Ytjiehlhnocgneaa
open Go.RowKit

/-- A key's item, or nothing, and the error beside it. -/
def itF : Option (Int × Int) → Int × Int × Int
  | none => (0, 0, 3)
  | some x => (x.1, x.2, 0)
theorem itV_eq (o : Option (Int × Int)) : itV o = #[.agg #[.int .i64 (itF o).1, .int .i64 (itF o).2.1], .int .i64 (itF o).2.2] := by cases o <;> rfl
/-- What an item says: nothing, or one of a row. -/
def Says (o : Option (Int × Int)) (a b k : Int) : Prop := (o = none ∧ a = 0 ∧ b = 0 ∧ k = 3) ∨ (o = some (a, b) ∧ k = 0)
theorem says_it (o : Option (Int × Int)) : ∃ a b k, itV o = #[.agg #[.int .i64 a, .int .i64 b], .int .i64 k] ∧ Says o a b k := by
  cases o with
  | none => exact ⟨0, 0, 3, rfl, .inl ⟨rfl, rfl, rfl, rfl⟩⟩
  | some x => exact ⟨x.1, x.2, 0, rfl, .inr ⟨rfl, rfl⟩⟩
def ItemS (o : Option (Int × Int)) (w : World) (e : Ending) (w' : World) : Prop := ∃ a b k, e = .returned (.tuple #[.agg #[.int .i64 a, .int .i64 b], .int .i64 k]) ∧ Says o a b k ∧ Ext w w'
theorem ItemA.says {o : Option (Int × Int)} {w : World} {e : Ending} {w' : World} (h : ItemA o w e w') : ItemS o w e w' := by
  obtain ⟨h1, h2⟩ := h
  obtain ⟨a, b, k, e1, h3⟩ := says_it o
  exact ⟨a, b, k, by rw [h1, e1], h3, h2⟩
theorem ItemE.says {w : World} {e : Ending} {w' : World} (h : ItemE 3 w e w') : ItemS none w e w' := ⟨0, 0, 3, h.1, .inl ⟨rfl, rfl, rfl, rfl⟩, h.2⟩
/-- The item of a place. -/
def atR (l : Row) (q : Int) : Option (Int × Int) := if q < 0 then none else l[q.toNat]?
theorem orAt_any (A B : Option Addr) (n m c d : Nat) (ns : List Nd) (fs : List Int) (t : T) (q : Int) (w : World) (h : Ar w A n B m ns fs) (hn : n ≤ 1000) (hm : m ≤ 1000) (hU : U t.ref) (hmay : ArMay ns fs) (hM : Mp ns t) :
    Calls Try.prog 30 #[.agg #[.slice A n c, .slice B m d], .int .u64 t.ref, .int .i64 q] w (ItemS (atR t.row q) w) := by
  unfold atR
  by_cases hq : q < 0
  · rw [if_pos hq]
    exact (orAt_low A B n m c d ns fs t q w h hn hm hU hmay hM hq).mono fun e w' h => h.says
  · rw [if_neg hq]
    exact (orAt_is A B n m c d ns fs t q w h hn hm hU hmay hM (by omega)).mono fun e w' h => h.says

theorem lo_take {l : Row} (hs : Srt l) (key : Int) : ∃ q, q ≤ l.length ∧ lo l key = l.take q ∧ (∀ (i : Nat) (a : Int × Int), i < q → l[i]? = some a → a.1 < key) ∧ ∀ (i : Nat) (a : Int × Int), q ≤ i → l[i]? = some a → key ≤ a.1 := by
  have e := lo_ge hs key
  refine ⟨(lo l key).length, List.length_filter_le _ _, ?_, fun i a hi ha => ?_, fun i a hi ha => ?_⟩
  · have h : l.take (lo l key).length = (lo l key ++ ge l key).take (lo l key).length := by rw [e]
    rw [h, List.take_left]
  · rw [← e, List.getElem?_append_left hi] at ha
    exact (mem_lo.1 (List.mem_of_getElem? ha)).2
  · rw [← e, List.getElem?_append_right hi] at ha
    exact (mem_ge.1 (List.mem_of_getElem? ha)).2
/-- How many keys are up to one. -/
theorem upto_len {l : Row} (hs : Srt l) (key : Int) : (∃ v, l[(lo l key).length]? = some (key, v) ∧ (upto l key).length = (lo l key).length + 1) ∨ ((∀ v, l[(lo l key).length]? ≠ some (key, v)) ∧ (upto l key).length = (lo l key).length) := by
  obtain ⟨q, hq, e, h1, h2⟩ := lo_take hs key
  have hlen : (lo l key).length = q := by rw [e, List.length_take]; omega
  rw [hlen]
  cases hx : l[q]? with
  | none =>
    have hql : l.length ≤ q := by
      by_cases hh : l.length ≤ q
      · exact hh
      · rw [List.getElem?_eq_getElem (by omega)] at hx; cases hx
    refine .inr ⟨fun v h => (by cases h), ?_⟩
    have : upto l key = l.take q := cut_filter _ hq (fun i a hi ha => by have := h1 i a hi ha; simp; omega) (fun i a hi ha => by have := (List.getElem?_eq_some_iff.1 ha).1; omega)
    rw [this, List.length_take]; omega
  | some x =>
    have hql := (List.getElem?_eq_some_iff.1 hx).1
    by_cases hk : x.1 = key
    · refine .inl ⟨x.2, by rw [← hk], ?_⟩
      have : upto l key = l.take (q + 1) := cut_filter _ (by omega) (fun i a hi ha => by
        rcases Nat.lt_or_eq_of_le (show i ≤ q by omega) with h | h
        · have := h1 i a h ha; simp; omega
        · subst h
          rw [hx] at ha; injection ha with ha; subst ha; simp; omega) (fun i a hi ha => by have := srt_get hs hx ha (by omega); simp; omega)
      rw [this, List.length_take]; omega
    · refine .inr ⟨fun v h => hk (by injection h with h; rw [h]), ?_⟩
      have : upto l key = l.take q := cut_filter _ hq (fun i a hi ha => by have := h1 i a hi ha; simp; omega) (fun i a hi ha => by
        have h3 := h2 q x (Nat.le_refl _) hx
        rcases Nat.lt_or_eq_of_le hi with h | h
        · have := srt_get hs hx ha h; simp; omega
        · subst h
          rw [hx] at ha; injection ha with ha; subst ha; simp; omega)
      rw [this, List.length_take]; omega


end Go.Proofs.Ytjiehlhnocgneaa
