/-
  Places in a map told by its row: the calls' contracts in these words.
-/
import Derived.Test.YtjiehlhnocgneaaArV
import Derived.Test.YtjiehlhnocgneaaOrAlive
import Derived.Test.YtjiehlhnocgneaaOrItem
set_option linter.unusedVariables false
set_option linter.unusedSimpArgs false
namespace Go.Proofs.Ytjiehlhnocgneaa
open Go.RowKit

section
variable {W : World} {A B : Option Addr} {n m c d : Nat} {ns : List Nd} {fs : List Int} {z : Int} {l : Row}
theorem av_size (h : Av W A n B m ns fs) (hM : MapV ns z l) : ∀ W', Ext W W' → Calls Try.prog 29 #[.agg #[.slice A n c, .slice B m d], .int .u64 z] W' (IntE l.length 0 W') := by
  intro W' hx
  obtain ⟨t, h1, rfl, rfl, hU⟩ := hM
  rw [T.row_length]
  exact orSize_ok A B n m c d ns fs t W' (h.to hx).ar h.n1 h.m1 hU h.may h1
theorem av_rank (h : Av W A n B m ns fs) (hM : MapV ns z l) (key : Int) : ∀ W', Ext W W' → Calls Try.prog 31 #[.agg #[.slice A n c, .slice B m d], .int .u64 z, .int .i64 key] W' (IntE (lo l key).length 0 W') := by
  intro W' hx
  obtain ⟨t, h1, rfl, rfl, hU⟩ := hM
  exact orRank_is A B n m c d ns fs t key W' (h.to hx).ar h.n1 h.m1 hU h.may h1
theorem av_at (h : Av W A n B m ns fs) (hM : MapV ns z l) (q : Int) : ∀ W', Ext W W' → Calls Try.prog 30 #[.agg #[.slice A n c, .slice B m d], .int .u64 z, .int .i64 q] W' (ItemS (atR l q) W') := by
  intro W' hx
  obtain ⟨t, h1, rfl, rfl, hU⟩ := hM
  exact orAt_any A B n m c d ns fs t q W' (h.to hx).ar h.n1 h.m1 hU h.may h1
theorem av_ceil (h : Av W A n B m ns fs) (hM : MapV ns z l) (key : Int) : ∀ W', Ext W W' → Calls Try.prog 33 #[.agg #[.slice A n c, .slice B m d], .int .u64 z, .int .i64 key] W' (ItemS l[(lo l key).length]? W') := by
  intro W' hx
  obtain ⟨t, h1, rfl, rfl, hU⟩ := hM
  exact (orCeil_is A B n m c d ns fs t key W' (h.to hx).ar h.n1 h.m1 hU h.may h1).mono fun e w' h => h.says
theorem av_floor (h : Av W A n B m ns fs) (hM : MapV ns z l) (key : Int) : ∀ W', Ext W W' → Calls Try.prog 32 #[.agg #[.slice A n c, .slice B m d], .int .u64 z, .int .i64 key] W' (ItemS (if (upto l key).length = 0 then none else l[(upto l key).length - 1]?) W') := by
  intro W' hx
  obtain ⟨t, h1, rfl, rfl, hU⟩ := hM
  exact (orFloor_is A B n m c d ns fs t key W' (h.to hx).ar h.n1 h.m1 hU h.may h1).mono fun e w' h => h.says
end

theorem lo_same {l : Row} {a b : Row} {k v u q : Int} : (lo (a ++ (k, u) :: b) q).length = (lo (a ++ (k, v) :: b) q).length := by
  simp only [lo, List.filter_append, List.filter_cons, List.length_append]
  split <;> simp
/-- What a key that is put does to places. -/
theorem lo_put {l : Row} (h : Srt l) (k v q : Int) : (HasK l k ∧ (putR l k v).length = l.length ∧ (lo (putR l k v) q).length = (lo l q).length) ∨ (¬ HasK l k ∧ (putR l k v).length = l.length + 1 ∧ ((k < q ∧ (lo (putR l k v) q).length = (lo l q).length + 1) ∨ (q ≤ k ∧ (lo (putR l k v) q).length = (lo l q).length))) := by
  by_cases hk : HasK l k
  · refine .inl ⟨hk, ?_⟩
    obtain ⟨u, hu⟩ := hk
    obtain ⟨a, b, rfl⟩ := List.append_of_mem hu
    rw [put_here h]
    exact ⟨by simp, lo_same (l := []) (v := u) (u := v)⟩
  · refine .inr ⟨hk, put_len h hk, ?_⟩
    have e1 : (lo (putR l k v) q).length = (lo (lo l k) q).length + (lo [(k, v)] q).length + (lo (ge l k) q).length := by
      rw [put_new h hk]
      simp only [lo, List.filter_append, List.filter_cons, List.length_append, List.filter_nil]
      split <;> simp <;> omega
    have e2 : (lo l q).length = (lo (lo l k) q).length + (lo (ge l k) q).length := by
      conv => lhs; rw [← lo_ge h k]
      simp only [lo, List.filter_append, List.length_append]
    by_cases hq : k < q
    · exact .inl ⟨hq, by rw [e1, e2]; simp [lo, hq]; omega⟩
    · exact .inr ⟨by omega, by rw [e1, e2]; simp [lo, hq]⟩

end Go.Proofs.Ytjiehlhnocgneaa
