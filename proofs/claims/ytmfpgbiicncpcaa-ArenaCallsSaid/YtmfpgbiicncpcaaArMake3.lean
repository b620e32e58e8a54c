/-
  Make and Drop, whatever they are handed; an arena cut to a few.
-/
import Derived.Test.YtmfpgbiicncpcaaArAlive
import Derived.Test.YtmfpgbiicncpcaaWantRight
import Derived.Test.YtmfpgbiicncpcaaArLike
set_option linter.unusedVariables false
set_option linter.unusedSimpArgs false
namespace Go.Proofs.Ytmfpgbiicncpcaa
open Go.RowKit

theorem Ar.few {w : World} {A B : Option Addr} {n m : Nat} {ns : List Nd} {fs : List Int} (h : Ar w A n B m ns fs) : Ar w A (min n 40) B (min m 42) (ns.take 40) (fs.take 42) := by
  have h1 := h.nodes.take (k := min n 40) (by omega)
  have h2 := h.free.take (k := min m 42) (by omega)
  rw [flat_take Nd.cells_length] at h1
  have e1 : ns.take (min n 40) = ns.take 40 := by
    rw [← h.len, Nat.min_comm, List.take_eq_take_iff]
    omega
  have e2 : (Ks .i64 fs).take (min m 42 * 1) = Ks .i64 (fs.take 42) := by
    unfold Ks
    rw [List.map_take, Nat.mul_one, ← h.lenF, Nat.min_comm, List.take_eq_take_iff]
    simp
  rw [e1] at h1
  rw [e2] at h2
  exact ⟨h1, h2, fun x hx => h.ok x (List.mem_of_mem_take hx)⟩

def MakeR (w : World) (n m : Nat) (ns : List Nd) (fs : List Int) (x : Nd) (e : Ending) (w' : World) : Prop :=
  (∃ k : Int, k ≠ 0 ∧ (k = 2 ↔ (ArMay ns fs ∧ x.Makes)) ∧ (k = 1 ↔ ¬ (ArMay ns fs ∧ x.Makes)) ∧ (k = 2 → fs = []) ∧ e = .returned (.tuple #[.agg #[.slice none 0 0, .slice none 0 0], .int .u64 0, .int .i64 k]) ∧ Ext w w') ∨
  (∃ (m' p : Nat) (old : Nd), m = m' + 1 ∧ fs[m']? = some (p : Int) ∧ ns[p]? = some old ∧ old.k = 0 ∧ ArMay ns fs ∧ x.Makes ∧ MadeA w n m' ns fs p (x.gen old.g) e w')

theorem make_is (A B : Option Addr) (n m c d : Nat) (ns : List Nd) (fs : List Int) (x : Nd) (w : World) (h : Ar w A n B m ns fs) (hn : n ≤ 1000) (hm : m ≤ 1000) (hx : x.Ok) :
    Calls Try.prog 12 #[.agg #[.slice A n c, .slice B m d], .agg x.arr] w (MakeR w n m ns fs x) := by
  by_cases hq : ArMay ns fs ∧ x.Makes
  · obtain ⟨h1, h2⟩ := hq
    cases m with
    | zero =>
      have hf : fs = [] := List.eq_nil_of_length_eq_zero h.lenF
      subst hf
      exact (make_full A B n c d ns x w h hn hx h1 h2).mono fun e w' ⟨he, hw⟩ => .inl ⟨2, by omega, ⟨fun _ => ⟨h1, h2⟩, fun _ => rfl⟩, ⟨fun e => by omega, fun hh => absurd ⟨h1, h2⟩ hh⟩, fun _ => rfl, he, hw⟩
    | succ m =>
      obtain ⟨y, hy⟩ : ∃ y, fs[m]? = some y := ⟨_, List.getElem?_eq_getElem (by have := h.lenF; omega)⟩
      obtain ⟨p, old, rfl, ho, hk, _⟩ := h1.last hy
      exact (make_yes A B n m c d ns fs x p old w h hn hx h1 h2 hy ho).mono fun e w' hM => .inr ⟨m, p, old, rfl, hy, ho, hk, h1, h2, hM⟩
  · exact (make_arg A B n m c d ns fs x w h hn hm hx hq).mono fun e w' ⟨he, hw⟩ => .inl ⟨1, by omega, ⟨fun e => by omega, fun hh => absurd hh hq⟩, ⟨fun _ => hq, fun _ => rfl⟩, fun e => by omega, he, hw⟩

def DropS (w : World) (n m q : Nat) (ns : List Nd) (fs ps : List Int) (e : Ending) (w' : World) : Prop :=
  ((¬ ArMay ns fs ∨ drops ns ps = none) ∧ DropNo w e w') ∨ (ArMay ns fs ∧ ∃ ns', drops ns ps = some ns' ∧ DropA w n m q ns' fs ps e w')
theorem drop_all (A B C : Option Addr) (n m c d q r : Nat) (ns : List Nd) (fs ps : List Int) (w : World) (h : Ar w A n B m ns fs) (hn : n ≤ 1000) (hm : m ≤ 1000) (hq : q ≤ 1000) (hp : Rd w 1 C q (Ks .i64 ps)) :
    Calls Try.prog 23 #[.agg #[.slice A n c, .slice B m d], .slice C q r] w (DropS w n m q ns fs ps) := by
  by_cases hmay : ArMay ns fs
  · refine (drop_is A B C n m c d q r ns fs ps w h hn hm hq hp hmay).mono fun e w' hR => ?_
    rcases hR with ⟨h1, h2⟩ | h1
    · exact .inl ⟨.inr h1, h2⟩
    · exact .inr ⟨hmay, h1⟩
  · exact (drop_arg A B C n m c d q r ns fs w h hn hm hmay).mono fun e w' hR => .inl ⟨.inl hmay, hR⟩

end Go.Proofs.Ytmfpgbiicncpcaa
