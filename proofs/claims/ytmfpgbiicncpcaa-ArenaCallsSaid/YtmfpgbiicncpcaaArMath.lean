/-
  What may be stays so: an arena that is new, in which a node is made, from which nodes are dropped.
-/
import Derived.Test.YtmfpgbiicncpcaaDrop
set_option linter.unusedVariables false
set_option linter.unusedSimpArgs false
namespace Go.Proofs.Ytmfpgbiicncpcaa
open Go.RowKit

theorem bare_fits {g : Int} (h : GenMay g) : (bare g).Fits := ⟨h, .inl ⟨rfl, rfl⟩⟩
theorem new_may {n : Nat} (h1 : 1 ≤ n) (h2 : n ≤ 512) : ArMay (List.replicate n (bare 0)) (down n) := by
  refine ⟨by simp; omega, by simp; omega, fun x hx => ?_, fun y hy => ?_, ?_, fun i x hx => ?_⟩
  · rw [List.eq_of_mem_replicate hx]
    exact bare_fits ⟨by omega, by omega⟩
  · simp only [down, List.mem_map, List.mem_range] at hy
    obtain ⟨i, hi, rfl⟩ := hy
    simp only [List.length_replicate]
    exact ⟨by omega, by omega⟩
  · unfold down
    rw [List.nodup_iff_pairwise_ne, List.pairwise_map]
    exact List.pairwise_lt_range.imp (fun {a b} hab => by omega)
  · have hi : i < n := by simpa using (List.getElem?_eq_some_iff.1 hx).1
    have hx' : x = bare 0 := List.eq_of_mem_replicate (List.mem_of_getElem? hx)
    subst hx'
    simp only [down, List.mem_map, List.mem_range]
    exact ⟨fun _ => rfl, fun _ => ⟨n - 1 - i, by omega, by omega⟩⟩

theorem make_may {ns : List Nd} {fs : List Int} {m p : Nat} {x old : Nd} (h : ArMay ns fs) (hm : fs.length = m + 1) (hp : fs[m]? = some (p : Int)) (hold : ns[p]? = some old) (hx : x.Makes) : ArMay (ns.set p (x.gen old.g)) (fs.take m) := by
  have hfs : fs.take m ++ [(p : Int)] = fs := by
    have := List.take_add_one (l := fs) (i := m)
    rw [hp, List.take_of_length_le (by omega)] at this
    exact this.symm
  have hnp := nodup_at h.frees.2.1 hp
  have hsub : ∀ y ∈ fs.take m, y ∈ fs := fun y hy => List.mem_of_mem_take hy
  refine ⟨by rw [List.length_set]; exact h.pos, by rw [List.length_set]; exact h.le, fun y hy => ?_, fun y hy => by rw [List.length_set]; exact h.frees.1 y (hsub y hy), h.frees.2.1.sublist (List.take_sublist _ _), fun i y hy => ?_⟩
  · rcases List.mem_or_eq_of_mem_set hy with h' | h'
    · exact h.fits y h'
    · subst h'
      exact ⟨(h.fits old (List.mem_of_getElem? hold)).1, .inr ⟨by have := hx.1; show x.k ≠ 0; omega, hx.2.2⟩⟩
  · by_cases e : p = i
    · subst e
      rw [List.getElem?_set_self (List.getElem?_eq_some_iff.1 hold).1] at hy
      obtain rfl := Option.some.inj hy
      exact ⟨fun hh => absurd hh hnp, fun hk => by have := hx.1; have : x.k = 0 := hk; omega⟩
    · rw [List.getElem?_set_ne e] at hy
      rw [← h.frees.2.2 i y hy]
      refine ⟨hsub _, fun hh => ?_⟩
      rw [← hfs] at hh
      rcases List.mem_append.1 hh with hh | hh
      · exact hh
      · simp at hh
        omega

theorem drop1_may {ns ns' : List Nd} {fs : List Int} {y : Int} (h : ArMay ns fs) (hd : drop1 ns y = some ns') : ArMay ns' (fs ++ [y]) := by
  obtain ⟨p, x, rfl, hx, hk, rfl⟩ := drop1_some hd
  have hpn := (List.getElem?_eq_some_iff.1 hx).1
  have hnp : (p : Int) ∉ fs := fun hh => hk ((h.frees.2.2 p x hx).1 hh)
  refine ⟨by rw [List.length_set]; exact h.pos, by rw [List.length_set]; exact h.le, fun z hz => ?_, fun z hz => ?_, ?_, fun i z hz => ?_⟩
  · rcases List.mem_or_eq_of_mem_set hz with h' | h'
    · exact h.fits z h'
    · subst h'
      exact bare_fits (foll_may (h.fits x (List.mem_of_getElem? hx)).1)
  · rw [List.length_set]
    rcases List.mem_append.1 hz with hz | hz
    · exact h.frees.1 z hz
    · simp at hz
      subst hz
      exact ⟨by omega, by omega⟩
  · refine List.nodup_append.2 ⟨h.frees.2.1, by simp, fun a ha b hb => ?_⟩
    simp at hb
    subst hb
    exact fun e => hnp (e ▸ ha)
  · by_cases e : p = i
    · subst e
      rw [List.getElem?_set_self hpn] at hz
      obtain rfl := Option.some.inj hz
      simp [bare]
    · rw [List.getElem?_set_ne e] at hz
      rw [← h.frees.2.2 i z hz]
      refine ⟨fun hh => ?_, fun hh => List.mem_append.2 (.inl hh)⟩
      rcases List.mem_append.1 hh with hh | hh
      · exact hh
      · simp at hh
        omega
theorem drops_may {l : List Int} : ∀ {ns ns' : List Nd} {fs : List Int}, ArMay ns fs → drops ns l = some ns' → ArMay ns' (fs ++ l) := by
  induction l with
  | nil => intro ns ns' fs h hd; simp [drops] at hd; subst hd; simpa using h
  | cons y l ih =>
    intro ns ns' fs h hd
    simp only [drops] at hd
    cases h1 : drop1 ns y with
    | none => rw [h1] at hd; cases hd
    | some n1 =>
      rw [h1] at hd
      have := ih (drop1_may h h1) hd
      rwa [List.append_assoc] at this
/-- The last free place is a place of a node that is free. -/
theorem ArMay.last {ns : List Nd} {fs : List Int} (h : ArMay ns fs) {m : Nat} {y : Int} (hy : fs[m]? = some y) : ∃ (p : Nat) (old : Nd), y = p ∧ ns[p]? = some old ∧ old.k = 0 ∧ old = bare old.g := by
  have hm := List.mem_of_getElem? hy
  have hin := h.frees.1 y hm
  obtain ⟨old, ho⟩ : ∃ old, ns[y.toNat]? = some old := ⟨_, List.getElem?_eq_getElem (by have := hin.1; have := hin.2; omega)⟩
  have e : ((y.toNat : Nat) : Int) = y := by have := hin.1; omega
  have hk := (h.frees.2.2 y.toNat old ho).1 (by rw [e]; exact hm)
  refine ⟨y.toNat, old, e.symm, ho, hk, ?_⟩
  rcases (h.fits old (List.mem_of_getElem? ho)).2 with ⟨_, hb⟩ | ⟨hk', _⟩
  · exact hb
  · exact absurd hk hk'

end Go.Proofs.Ytmfpgbiicncpcaa
