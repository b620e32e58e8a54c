/-
  What each reference has, kept from round to round.
-/
import Derived.Test.YtmfpgbiicncpcaaFillMath
import Derived.Test.YtmfpgbiicncpcaaGet
import Derived.Test.YtmfpgbiicncpcaaMake
set_option linter.unusedVariables false
set_option linter.unusedSimpArgs false
namespace Go.Proofs.Ytmfpgbiicncpcaa
open Go.RowKit

def KeptAt (ns : List Nd) (r : Int) (y : Nd) : Prop :=
  ∃ (p : Nat) (g : Int) (x : Nd), r = 65536 * g + p + 1 ∧ 0 ≤ g ∧ ns[p]? = some x ∧ g ≤ x.g ∧ y.g = 0 ∧ ((y.k ≠ 0 ∧ x = y.gen g) ∨ (y = bare 0 ∧ g < x.g))

structure Keep (N t : Nat) (ns : List Nd) (fs rs : List Int) (nds : List Nd) (live : Nat) : Prop where
  may : ArMay ns fs
  len : ns.length = N
  same : rs.length = nds.length
  many : rs.length ≤ t
  live : live + fs.length = N
  gens : ∀ x ∈ ns, x.g ≤ t
  each : ∀ (k : Nat) (r : Int) (y : Nd), rs[k]? = some r → nds[k]? = some y → KeptAt ns r y
  apart : ∀ (k1 k2 : Nat) (r1 r2 : Int) (y1 y2 : Nd), k1 ≠ k2 → rs[k1]? = some r1 → rs[k2]? = some r2 → nds[k1]? = some y1 → nds[k2]? = some y2 → y1.k ≠ 0 → y2.k ≠ 0 → r1 % 65536 ≠ r2 % 65536

theorem keep_new {N : Nat} (h1 : 1 ≤ N) (h2 : N ≤ 512) : Keep N 0 (List.replicate N (bare 0)) (down N) [] [] 0 :=
  ⟨new_may h1 h2, by simp, rfl, by simp, by simp [down], fun x hx => by rw [List.eq_of_mem_replicate hx]; decide, fun k r y h => by simp at h, fun k1 k2 r1 r2 y1 y2 _ h => by simp at h⟩

theorem Keep.mono {N t t' : Nat} {ns : List Nd} {fs rs : List Int} {nds : List Nd} {live : Nat} (h : Keep N t ns fs rs nds live) (ht : t ≤ t') : Keep N t' ns fs rs nds live :=
  ⟨h.may, h.len, h.same, Nat.le_trans h.many ht, h.live, fun x hx => by have := h.gens x hx; omega, h.each, h.apart⟩

theorem snoc_get {α : Type} {l : List α} {x y : α} {k : Nat} (h : (l ++ [x])[k]? = some y) : (k < l.length ∧ l[k]? = some y) ∨ (k = l.length ∧ y = x) := by
  by_cases hk : k < l.length
  · rw [List.getElem?_append_left hk] at h
    exact .inl ⟨hk, h⟩
  · rw [List.getElem?_append_right (by omega)] at h
    have hk2 : k - l.length = 0 := by
      by_cases e : k - l.length = 0
      · exact e
      · rw [List.getElem?_eq_none (by simp; omega)] at h; cases h
    rw [hk2] at h
    simp at h
    exact .inr ⟨by omega, h.symm⟩

theorem Keep.made {N t m p : Nat} {ns : List Nd} {fs rs : List Int} {nds : List Nd} {live : Nat} {x old : Nd} (h : Keep N t ns fs rs nds live) (hm : fs.length = m + 1) (hp : fs[m]? = some (p : Int)) (ho : ns[p]? = some old) (hx : x.Makes) (hg : x.g = 0) :
    Keep N (t + 1) (ns.set p (x.gen old.g)) (fs.take m) (rs ++ [65536 * old.g + p + 1]) (nds ++ [x]) (live + 1) := by
  have hpn := (List.getElem?_eq_some_iff.1 ho).1
  have hk0 : old.k = 0 := (h.may.frees.2.2 p old ho).1 (List.mem_of_getElem? hp)
  have hle := h.may.le
  have hog : 0 ≤ old.g := (h.may.fits old (List.mem_of_getElem? ho)).1.1
  have hxk := hx.1
  have noLive : ∀ (k : Nat) (r : Int) (y : Nd), rs[k]? = some r → nds[k]? = some y → y.k ≠ 0 → r % 65536 ≠ (p : Int) + 1 := fun k r y hr hy hyk e => by
    obtain ⟨q, g, z, rfl, hg0, hz, hgz, hy0, h1 | h1⟩ := h.each k r y hr hy
    · have hq := (List.getElem?_eq_some_iff.1 hz).1
      obtain rfl : q = p := by omega
      rw [ho] at hz
      obtain rfl := Option.some.inj hz
      rw [h1.2] at hk0
      exact hyk hk0
    · rw [h1.1] at hyk
      exact hyk rfl
  refine ⟨make_may h.may hm hp ho hx, by rw [List.length_set]; exact h.len, by simp [h.same], by have := h.many; simp; omega, by have := h.live; rw [List.length_take]; omega, fun z hz => ?_, fun k r y hr hy => ?_, fun k1 k2 r1 r2 y1 y2 hne hr1 hr2 hy1 hy2 hk1 hk2 => ?_⟩
  · rcases List.mem_or_eq_of_mem_set hz with h' | h'
    · have := h.gens z h'; omega
    · subst h'
      have := h.gens old (List.mem_of_getElem? ho)
      show old.g ≤ _
      omega
  · rcases snoc_get hr with ⟨hl, hr⟩ | ⟨hl, rfl⟩
    · rcases snoc_get hy with ⟨_, hy⟩ | ⟨hl2, _⟩
      · obtain ⟨q, g, z, rfl, hg0, hz, hgz, hy0, h1⟩ := h.each k r y hr hy
        have hq := (List.getElem?_eq_some_iff.1 hz).1
        by_cases e : p = q
        · subst e
          rw [ho] at hz
          obtain rfl := Option.some.inj hz
          refine ⟨p, g, x.gen old.g, rfl, hg0, List.getElem?_set_self hpn, hgz, hy0, ?_⟩
          rcases h1 with h1 | h1
          · exact absurd (show (65536 * g + (p : Int) + 1) % 65536 = (p : Int) + 1 by omega) (noLive k _ y hr hy h1.1)
          · exact .inr h1
        · exact ⟨q, g, z, rfl, hg0, by rw [List.getElem?_set_ne e]; exact hz, hgz, hy0, h1⟩
      · have := h.same; omega
    · rcases snoc_get hy with ⟨hl2, _⟩ | ⟨_, rfl⟩
      · have := h.same; omega
      · exact ⟨p, old.g, y.gen old.g, rfl, hog, List.getElem?_set_self hpn, Int.le_refl _, hg, .inl ⟨by omega, rfl⟩⟩
  · have hsm := h.same
    rcases snoc_get hr1 with ⟨l1, hr1⟩ | ⟨l1, rfl⟩
    · rcases snoc_get hy1 with ⟨_, hy1⟩ | ⟨l1', _⟩
      · rcases snoc_get hr2 with ⟨l2, hr2⟩ | ⟨l2, rfl⟩
        · rcases snoc_get hy2 with ⟨_, hy2⟩ | ⟨l2', _⟩
          · exact h.apart k1 k2 r1 r2 y1 y2 hne hr1 hr2 hy1 hy2 hk1 hk2
          · omega
        · have := noLive k1 r1 y1 hr1 hy1 hk1
          omega
      · omega
    · rcases snoc_get hr2 with ⟨l2, hr2⟩ | ⟨l2, rfl⟩
      · rcases snoc_get hy2 with ⟨_, hy2⟩ | ⟨l2', _⟩
        · have := noLive k2 r2 y2 hr2 hy2 hk2
          omega
        · omega
      · omega

/-- A live one is dropped. -/
theorem Keep.dropped {N t k : Nat} {ns : List Nd} {fs rs : List Int} {nds : List Nd} {live : Nat} {r : Int} {y : Nd} (h : Keep N t ns fs rs nds live) (ht : t < 1000) (hr : rs[k]? = some r) (hy : nds[k]? = some y) (hk : y.k ≠ 0) :
    ∃ (p : Nat) (ns' : List Nd) (live' : Nat), r % 65536 - 1 = p ∧ drops ns [(p : Int)] = some ns' ∧ live = live' + 1 ∧ Keep N (t + 1) ns' (fs ++ [(p : Int)]) rs (nds.set k (bare 0)) live' := by
  obtain ⟨p, g, x, rfl, hg0, hx, hgx, hy0, h1⟩ := h.each k r y hr hy
  have hx2 : x = y.gen g := by
    rcases h1 with h1 | h1
    · exact h1.2
    · rw [h1.1] at hk; exact absurd rfl hk
  have hpn := (List.getElem?_eq_some_iff.1 hx).1
  have hle := h.may.le
  have hxk : x.k ≠ 0 := by rw [hx2]; exact hk
  have hxg : x.g = g := by rw [hx2]; rfl
  have hgt := h.gens x (List.mem_of_getElem? hx)
  have hfo : foll x.g = g + 1 := by unfold foll; rw [if_pos (by omega), hxg]
  have hd1 : drop1 ns (p : Int) = some (ns.set p (bare (g + 1))) := by
    unfold drop1
    rw [if_pos (by omega), show ((p : Int)).toNat = p from rfl, hx]
    dsimp only
    rw [if_neg hxk, hfo]
  have hmay := drop1_may h.may hd1
  have hlen : fs.length < N := by
    have h1 := hmay.len
    rw [List.length_set, h.len] at h1
    simp at h1
    omega
  have hkl := (List.getElem?_eq_some_iff.1 hy).1
  refine ⟨p, ns.set p (bare (g + 1)), live - 1, by omega, by simp only [drops, hd1]; rfl, by have := h.live; omega, hmay, by rw [List.length_set]; exact h.len, by rw [List.length_set]; exact h.same, by have := h.many; omega, by have := h.live; simp; omega, fun z hz => ?_, fun j s u hs hu => ?_, fun k1 k2 r1 r2 y1 y2 hne hr1 hr2 hy1 hy2 hk1 hk2 => ?_⟩
  · rcases List.mem_or_eq_of_mem_set hz with h' | h'
    · have := h.gens z h'; omega
    · subst h'
      show g + 1 ≤ _
      omega
  · by_cases e : k = j
    · subst e
      rw [List.getElem?_set_self hkl] at hu
      obtain rfl := Option.some.inj hu
      rw [hr] at hs
      obtain rfl := Option.some.inj hs
      exact ⟨p, g, bare (g + 1), rfl, hg0, List.getElem?_set_self hpn, by show g ≤ g + 1; omega, rfl, .inr ⟨rfl, by show g < g + 1; omega⟩⟩
    · rw [List.getElem?_set_ne e] at hu
      obtain ⟨q, g2, z, rfl, hg20, hz, hgz, hu0, h2⟩ := h.each j s u hs hu
      have hq := (List.getElem?_eq_some_iff.1 hz).1
      by_cases e2 : p = q
      · subst e2
        rw [hx] at hz
        obtain rfl := Option.some.inj hz
        refine ⟨p, g2, bare (g + 1), rfl, hg20, List.getElem?_set_self hpn, by show g2 ≤ g + 1; omega, hu0, ?_⟩
        rcases h2 with h2 | h2
        · exact absurd (show (65536 * g + (p : Int) + 1) % 65536 = (65536 * g2 + (p : Int) + 1) % 65536 by omega) (h.apart k j _ _ y u e hr hs hy hu hk h2.1)
        · exact .inr ⟨h2.1, by show g2 < g + 1; omega⟩
      · exact ⟨q, g2, z, rfl, hg20, by rw [List.getElem?_set_ne e2]; exact hz, hgz, hu0, h2⟩
  · by_cases e1 : k = k1
    · subst e1
      rw [List.getElem?_set_self hkl] at hy1
      obtain rfl := Option.some.inj hy1
      exact absurd rfl hk1
    · by_cases e2 : k = k2
      · subst e2
        rw [List.getElem?_set_self hkl] at hy2
        obtain rfl := Option.some.inj hy2
        exact absurd rfl hk2
      · rw [List.getElem?_set_ne e1] at hy1
        rw [List.getElem?_set_ne e2] at hy2
        exact h.apart k1 k2 r1 r2 y1 y2 hne hr1 hr2 hy1 hy2 hk1 hk2

/-- What a reference has. -/
theorem Keep.got {N t k : Nat} {ns : List Nd} {fs rs : List Int} {nds : List Nd} {live : Nat} {r : Int} {y : Nd} (h : Keep N t ns fs rs nds live) (ht : t < 1000) (hr : rs[k]? = some r) (hy : nds[k]? = some y) :
    0 ≤ r ∧ r ≤ 18446744073709551615 ∧ ((y.k ≠ 0 ∧ ∃ (p : Nat) (x : Nd), Got ns r p x ∧ x.gen 0 = y) ∨ (y = bare 0 ∧ Gone ns r)) := by
  obtain ⟨p, g, x, rfl, hg0, hx, hgx, hy0, h1⟩ := h.each k r y hr hy
  have hpn := (List.getElem?_eq_some_iff.1 hx).1
  have hle := h.may.le
  have hgt := h.gens x (List.mem_of_getElem? hx)
  refine ⟨by omega, by omega, ?_⟩
  rcases h1 with ⟨h1, h2⟩ | ⟨h1, h2⟩
  · refine .inl ⟨h1, p, x, ?_, ?_⟩
    · exact ⟨by unfold Node; omega, by omega, hx, by rw [h2]; exact h1, by rw [h2]; show g = _; omega⟩
    · rw [h2]
      cases y
      simp only [Nd.gen] at *
      simp_all
  · refine .inr ⟨h1, fun q z hq => ?_⟩
    have e1 := hq.place
    have e2 := hq.gen
    obtain rfl : q = p := by omega
    have e3 := hq.at_
    rw [hx] at e3
    obtain rfl := Option.some.inj e3
    omega

end Go.Proofs.Ytmfpgbiicncpcaa
