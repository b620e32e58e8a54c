/-
  All of an arena's nodes made, and dropped again.
-/
import Derived.Test.YtmfpgbiicncpcaaArMath
set_option linter.unusedVariables false
set_option linter.unusedSimpArgs false
namespace Go.Proofs.Ytmfpgbiicncpcaa
open Go.RowKit

def modn (m x : Int) : Nat := (x % m).toNat
theorem modn_lt (m x : Int) (hm : 0 < m) : (modn m x : Int) < m := by
  have := Int.emod_lt_of_pos x hm
  have := Int.emod_nonneg x (show m ≠ 0 by omega)
  unfold modn
  omega
theorem modn_is (m x : Int) (hm : 0 < m) (hm2 : m ≤ 1000) : (wrap64 (x.tmod m + m)).tmod m = (modn m x : Int) := by
  have e0 : 0 ≤ x % m := Int.emod_nonneg _ (by omega)
  have e1 : x % m < m := Int.emod_lt_of_pos _ hm
  unfold modn
  rw [Int.toNat_of_nonneg e0]
  have h1 : x.tmod m = x % m ∨ x.tmod m = x % m - m := by
    rw [Int.tmod_eq_emod]
    split
    · left; omega
    · right; have : (m.natAbs : Int) = m := by omega
      omega
  have w64 (z : Int) (h1 : 0 ≤ z) (h2 : z < 3000) : wrap64 z = z := by
    unfold wrap64
    omega
  rcases h1 with h | h
  · rw [h, w64 _ (by omega) (by omega), Int.tmod_eq_emod_of_nonneg (by omega), Int.add_emod_right, Int.emod_emod_of_dvd _ (Int.dvd_refl m)]
  · rw [h, w64 _ (by omega) (by omega), Int.tmod_eq_emod_of_nonneg (by omega), show x % m - m + m = x % m by omega, Int.emod_emod_of_dvd _ (Int.dvd_refl m)]

/-- Places of nodes that are not free. -/
def MadeAt (ns : List Nd) (y : Int) : Prop := ∃ (p : Nat) (x : Nd), y = p ∧ ns[p]? = some x ∧ x.k ≠ 0

theorem drops_all {l : List Int} : ∀ {ns : List Nd}, l.Nodup → (∀ y ∈ l, MadeAt ns y) →
    ∃ ns', drops ns l = some ns' ∧ ns'.length = ns.length ∧ ∀ (i : Nat) (x' : Nd), ns'[i]? = some x' → ((i : Int) ∈ l ∧ ∃ x, ns[i]? = some x ∧ x' = bare (foll x.g)) ∨ ((i : Int) ∉ l ∧ ns[i]? = some x') := by
  induction l with
  | nil => intro ns _ _; exact ⟨ns, rfl, rfl, fun i x' h => .inr ⟨by simp, h⟩⟩
  | cons y l ih =>
    intro ns hn hm
    obtain ⟨p, x, rfl, hx, hk⟩ := hm y (by simp)
    have hnd := List.nodup_cons.1 hn
    have h1 : drop1 ns (p : Int) = some (ns.set p (bare (foll x.g))) := by
      unfold drop1
      rw [if_pos (by omega), show ((p : Int)).toNat = p from rfl, hx]
      dsimp only
      rw [if_neg hk]
    obtain ⟨ns', h2, h3, h4⟩ := ih (ns := ns.set p (bare (foll x.g))) hnd.2 (fun z hz => by
      obtain ⟨q, u, rfl, hu, hku⟩ := hm z (by simp [hz])
      refine ⟨q, u, rfl, ?_, hku⟩
      rw [List.getElem?_set_ne (fun e => by subst e; exact hnd.1 hz)]
      exact hu)
    refine ⟨ns', by simp only [drops, h1]; exact h2, by rw [h3, List.length_set], fun i x' hi => ?_⟩
    rcases h4 i x' hi with ⟨h5, z, hz, hz'⟩ | ⟨h5, h6⟩
    · have hne : p ≠ i := fun e => by subst e; exact hnd.1 h5
      rw [List.getElem?_set_ne hne] at hz
      exact .inl ⟨by simp [h5], z, hz, hz'⟩
    · by_cases e : p = i
      · subst e
        rw [List.getElem?_set_self (List.getElem?_eq_some_iff.1 hx).1] at h6
        exact .inl ⟨by simp, x, hx, (Option.some.inj h6).symm⟩
      · rw [List.getElem?_set_ne e] at h6
        refine .inr ⟨?_, h6⟩
        simp only [List.mem_cons, not_or]
        exact ⟨by omega, h5⟩

theorem all_in {l : List Int} {n : Nat} (h : l.Nodup) (hl : l.length = n) (hin : ∀ y ∈ l, In y n) : ∀ p : Nat, p < n → (p : Int) ∈ l := fun p hp => by
  rcases Classical.em ((p : Int) ∈ l) with h' | h'
  · exact h'
  · exfalso
    have h2 : l ⊆ ((List.range n).map Int.ofNat).erase (p : Int) := fun y hy => by
      have := hin y hy
      refine (List.mem_erase_of_ne (fun e => h' (by rw [← e]; exact hy))).2 ?_
      exact List.mem_map.2 ⟨y.toNat, by simp only [List.mem_range]; omega, by show ((y.toNat : Nat) : Int) = y; omega⟩
    have h3 := h.length_le_of_subset h2
    have hm : (p : Int) ∈ (List.range n).map Int.ofNat := List.mem_map.2 ⟨p, by simpa using hp, rfl⟩
    rw [List.length_erase_of_mem hm] at h3
    simp at h3
    omega

/-- An arena within a round: of so many nodes, all of one generation. -/
structure InRound (ns : List Nd) (fs : List Int) (n : Nat) (g : Int) : Prop where
  may : ArMay ns fs
  len : ns.length = n
  gens : ∀ x ∈ ns, x.g = g

theorem InRound.new {n : Nat} (h1 : 1 ≤ n) (h2 : n ≤ 512) : InRound (List.replicate n (bare 0)) (down n) n 0 :=
  ⟨new_may h1 h2, by simp, fun x hx => by rw [List.eq_of_mem_replicate hx]; rfl⟩
theorem InRound.make {ns : List Nd} {fs : List Int} {n m p : Nat} {g : Int} {x old : Nd} (h : InRound ns fs n g) (hm : fs.length = m + 1) (hp : fs[m]? = some (p : Int)) (hold : ns[p]? = some old) (hx : x.Makes) : InRound (ns.set p (x.gen old.g)) (fs.take m) n g :=
  ⟨make_may h.may hm hp hold hx, by rw [List.length_set]; exact h.len, fun y hy => by
    rcases List.mem_or_eq_of_mem_set hy with h' | h'
    · exact h.gens y h'
    · subst h'
      exact h.gens old (List.mem_of_getElem? hold)⟩
/-- All made: any n places that are there once are dropped. -/
theorem InRound.drop {ns : List Nd} {ps : List Int} {n : Nat} {g : Int} (h : InRound ns [] n g) (hn : ps.Nodup) (hl : ps.length = n) (hin : ∀ y ∈ ps, In y n) : ∃ ns', drops ns ps = some ns' ∧ InRound ns' ps n (foll g) := by
  obtain ⟨ns', h1, h2, h3⟩ := drops_all (ns := ns) hn (fun y hy => by
    have := hin y hy
    obtain ⟨x, hx⟩ : ∃ x, ns[y.toNat]? = some x := ⟨_, List.getElem?_eq_getElem (by rw [h.len]; omega)⟩
    refine ⟨y.toNat, x, by omega, hx, fun hk => ?_⟩
    have := (h.may.frees.2.2 y.toNat x hx).2 hk
    simp at this)
  refine ⟨ns', h1, by have := drops_may h.may h1; simpa using this, by rw [h2]; exact h.len, fun x' hx' => ?_⟩
  obtain ⟨i, hi⟩ := List.getElem?_of_mem hx'
  have hil := (List.getElem?_eq_some_iff.1 hi).1
  rw [h2, h.len] at hil
  rcases h3 i x' hi with ⟨_, x, hx, rfl⟩ | ⟨h4, _⟩
  · show foll x.g = foll g
    rw [h.gens x (List.mem_of_getElem? hx)]
  · exact absurd (all_in hn hl hin i hil) h4

/-- References that were made in a round. -/
def SeenIn (ns : List Nd) (g : Int) (S : List Int) : Prop := ∀ r ∈ S, ∃ (p : Nat) (x : Nd), r = 65536 * g + p + 1 ∧ ns[p]? = some x ∧ x.k ≠ 0
theorem SeenIn.fresh {ns : List Nd} {g : Int} {S : List Int} (h : SeenIn ns g S) {p : Nat} {old : Nd} (hold : ns[p]? = some old) (hk : old.k = 0) : (65536 * g + p + 1) ∉ S := fun hm => by
  obtain ⟨q, x, e, hx, hkx⟩ := h _ hm
  have : q = p := by omega
  subst this
  rw [hold] at hx
  obtain rfl := Option.some.inj hx
  exact hkx hk
theorem SeenIn.more {ns : List Nd} {g : Int} {S : List Int} (h : SeenIn ns g S) {p : Nat} {old y : Nd} (hold : ns[p]? = some old) (hk : old.k = 0) (hy : y.k ≠ 0) : SeenIn (ns.set p y) g (S ++ [65536 * g + p + 1]) := fun r hr => by
  have hpl := (List.getElem?_eq_some_iff.1 hold).1
  rcases List.mem_append.1 hr with hr | hr
  · obtain ⟨q, x, e, hx, hkx⟩ := h r hr
    refine ⟨q, x, e, ?_, hkx⟩
    rw [List.getElem?_set_ne (fun e => by subst e; rw [hold] at hx; obtain rfl := Option.some.inj hx; exact hkx hk)]
    exact hx
  · simp at hr
    exact ⟨p, y, hr, by rw [List.getElem?_set_self hpl], hy⟩
/-- Places that were noted: just those of the nodes that are made. -/
def Noted (ns : List Nd) (ps : List Int) : Prop := ps.Nodup ∧ ∀ y ∈ ps, MadeAt ns y
theorem Noted.more {ns : List Nd} {ps : List Int} (h : Noted ns ps) {p : Nat} {old y : Nd} (hold : ns[p]? = some old) (hk : old.k = 0) (hy : y.k ≠ 0) : Noted (ns.set p y) (ps ++ [(p : Int)]) := by
  have hpl := (List.getElem?_eq_some_iff.1 hold).1
  have hnp : (p : Int) ∉ ps := fun hm => by
    obtain ⟨q, x, e, hx, hkx⟩ := h.2 _ hm
    have : q = p := by omega
    subst this
    rw [hold] at hx
    obtain rfl := Option.some.inj hx
    exact hkx hk
  refine ⟨List.nodup_append.2 ⟨h.1, by simp, fun a ha b hb => ?_⟩, fun z hz => ?_⟩
  · simp at hb
    subst hb
    exact fun e => hnp (e ▸ ha)
  · rcases List.mem_append.1 hz with hz | hz
    · obtain ⟨q, x, rfl, hx, hkx⟩ := h.2 z hz
      refine ⟨q, x, rfl, ?_, hkx⟩
      rw [List.getElem?_set_ne (fun e => by subst e; exact hnp hz)]
      exact hx
    · simp at hz
      exact ⟨p, y, hz, by rw [List.getElem?_set_self hpl], hy⟩

end Go.Proofs.Ytmfpgbiicncpcaa
