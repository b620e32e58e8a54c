/-
  Which references are tables', node by node: the mathematics of isTable.
-/
import Derived.Test.YtfoifcbaadnigaaHtWith
set_option linter.unusedVariables false
set_option linter.unusedSimpArgs false
namespace Go.Proofs.Ytfoifcbaadnigaa
open Go.RowKit

/-- A reference is, at a level, the table of keys of which the lower digits are these. -/
def TabQ (ns : List Nd) (lv : Nat) (q r : Int) : Prop := ∃ t, Rp ns t ∧ t.ref = r ∧ Sh lv t ∧ (∀ x ∈ t.lvs, pas x.k lv = q) ∧ t.size ≤ 200
structure TrieOk (ns : List Nd) (lv : Nat) (q : Int) (x : Nd) : Prop where
  two : 2 ≤ x.s
  le : x.s ≤ 200
  is : x = boxNd 2 x.g (sumS ns [x.r0, x.r1, x.r2, x.r3]) [x.r0, x.r1, x.r2, x.r3]
  kids : ∀ i : Nat, i < 4 → TabQ ns (lv + 1) (q + i * (4 : Int) ^ lv) (ith x.kids i)
structure ClashOk (ns : List Nd) (q : Int) (x : Nd) : Prop where
  two : 2 ≤ x.s
  le : x.s ≤ 9
  is : x = boxNd 4 x.g (sumS ns (x.kids.take x.s.toNat)) (x.kids.take x.s.toNat)
  kids : ∀ i : Nat, i < x.s.toNat → (nodeF ns (ith x.kids i)).k = 3 ∧ TabQ ns 10 q (ith x.kids i) ∧ (0 < i → (nodeF ns (ith x.kids (i - 1))).n < (nodeF ns (ith x.kids i)).n)

theorem got_of {ns : List Nd} {r : Int} (h : (nodeF ns r).k ≠ 0) : ∃ p, Got ns r p (nodeF ns r) := by
  rcases got_or ns r with ⟨p, x, hg⟩ | hg
  · exact ⟨p, by rw [nodeF_got hg]; exact hg⟩
  · rw [nodeF_gone hg] at h
    exact absurd rfl h
theorem Lv.nodeF {ns : List Nd} {x : Lf} (h : Lv ns x) : ∃ g, nodeF ns x.r = leafNd g x.k x.v := by
  obtain ⟨g, hg⟩ := h
  exact ⟨g, nodeF_got hg⟩
theorem szF_leaf {ns : List Nd} {x : Lf} (h : Lv ns x) : szF ns x.r = 1 := by
  obtain ⟨g, hg⟩ := h.nodeF
  simp [szF, hg, leafNd]
theorem szF_zero (ns : List Nd) : szF ns 0 = 0 := by simp [szF, nodeF_zero, bare]
theorem szF_rp {ns : List Nd} {t : HT} (h : Rp ns t) : szF ns t.ref = t.size := by
  cases t with
  | nil => simp [HT.ref, szF_zero, HT.size, HT.lvs]
  | leaf x => simp only [HT.ref]; rw [szF_leaf h]; simp [HT.size, HT.lvs]
  | trie r p a b c d =>
    obtain ⟨⟨g, hg⟩, _⟩ := h
    simp only [HT.ref, szF, nodeF_got hg, boxNd]
    simp [HT.size, HT.lvs]
  | clash r p ls =>
    obtain ⟨⟨g, hg⟩, _⟩ := h
    simp only [HT.ref, szF, nodeF_got hg, boxNd]
    simp [HT.size, HT.lvs]
theorem w64_small {x : Int} (h0 : -1000000 ≤ x) (h1 : x ≤ 1000000) : wrap64 x = x := by unfold wrap64; omega
theorem sum_step {ns : List Nd} {l : List Int} {z s a : Int} (h : sumS ns l = s) (ha : szF ns z = a) (h0 : 0 ≤ s + a) (h1 : s + a ≤ 1000) : sumS ns (l ++ [z]) = s + a := by
  have e : sumS ns (l ++ [z]) = wrap64 (sumS ns l + szF ns z) := by unfold sumS; rw [List.foldl_append]; rfl
  rw [e, h, ha]
  exact w64_small (by omega) (by omega)
theorem sum4 {ns : List Nd} {r0 r1 r2 r3 : Int} {a b c d : Nat} (ha : szF ns r0 = a) (hb : szF ns r1 = b) (hc : szF ns r2 = c) (hd : szF ns r3 = d) (hl : a + (b + (c + d)) ≤ 1000) : sumS ns [r0, r1, r2, r3] = ((a + (b + (c + d)) : Nat) : Int) := by
  have h0 : sumS ns [] = 0 := rfl
  have h1 := sum_step h0 ha (by omega) (by omega)
  have h2 := sum_step h1 hb (by omega) (by omega)
  have h3 := sum_step h2 hc (by omega) (by omega)
  have h4 := sum_step h3 hd (by omega) (by omega)
  have e : ([] ++ [r0] ++ [r1] ++ [r2] ++ [r3] : List Int) = [r0, r1, r2, r3] := rfl
  rw [e] at h4
  rw [h4]
  omega
theorem sum_leaves {ns : List Nd} : ∀ {ls : List Lf} {s : Nat}, (∀ x ∈ ls, Lv ns x) → s + ls.length ≤ 1000 → (ls.map Lf.r).foldl (fun s z => wrap64 (s + szF ns z)) (s : Int) = ((s + ls.length : Nat) : Int) := by
  intro ls
  induction ls with
  | nil => intro s _ _; simp
  | cons x ls ih =>
    intro s h hl
    simp only [List.map_cons, List.foldl_cons, szF_leaf (h x (by simp)), List.length_cons] at hl ⊢
    rw [show wrap64 ((s : Int) + 1) = ((s + 1 : Nat) : Int) by rw [w64_small (by omega) (by omega)]; omega, ih (fun y hy => h y (by simp [hy])) (by omega)]
    omega
theorem sumS_leaves {ns : List Nd} {ls : List Lf} (h : ∀ x ∈ ls, Lv ns x) (hl : ls.length ≤ 1000) : sumS ns (ls.map Lf.r) = (ls.length : Nat) := by
  have := sum_leaves (s := 0) h (by omega)
  simpa [sumS] using this

theorem tabQ_leaf {ns : List Nd} {lv : Nat} {q r : Int} (hk : (nodeF ns r).k = 3) : TabQ ns lv q r ↔ nodeF ns r = leafNd (nodeF ns r).g (nodeF ns r).n (nodeF ns r).v ∧ pas (nodeF ns r).n lv = q := by
  obtain ⟨p, hg⟩ := got_of (by rw [hk]; decide)
  constructor
  · rintro ⟨t, h1, h2, h3, h4, h5⟩
    cases t with
    | nil => simp only [HT.ref] at h2; subst h2; exact absurd rfl (got_nz hg)
    | leaf x =>
      simp only [HT.ref] at h2
      subst h2
      obtain ⟨g, e⟩ := Lv.nodeF h1
      rw [e]
      exact ⟨rfl, h4 x (by simp [HT.lvs])⟩
    | trie r' p' a b c d =>
      simp only [HT.ref] at h2
      subst h2
      obtain ⟨⟨g, hg'⟩, _⟩ := h1
      rw [nodeF_got hg'] at hk
      simp [boxNd] at hk
    | clash r' p' ls =>
      simp only [HT.ref] at h2
      subst h2
      obtain ⟨⟨g, hg'⟩, _⟩ := h1
      rw [nodeF_got hg'] at hk
      simp [boxNd] at hk
  · rintro ⟨e, h⟩
    refine ⟨.leaf ⟨r, p, (nodeF ns r).n, (nodeF ns r).v⟩, ⟨(nodeF ns r).g, by rw [← e]; exact hg⟩, rfl, trivial, fun x hx => ?_, by simp [HT.size, HT.lvs]⟩
    simp [HT.lvs] at hx
    rw [hx]
    exact h
theorem tabQ_none {ns : List Nd} {lv : Nat} {q r : Int} (h2 : (nodeF ns r).k ≠ 2) (h3 : (nodeF ns r).k ≠ 3) (h4 : (nodeF ns r).k ≠ 4) : TabQ ns lv q r ↔ r = 0 := by
  constructor
  · rintro ⟨t, k1, k2, _⟩
    cases t with
    | nil => exact k2.symm
    | leaf x =>
      simp only [HT.ref] at k2; subst k2
      obtain ⟨g, e⟩ := Lv.nodeF k1
      rw [e] at h3
      exact absurd rfl h3
    | trie r' p' a b c d =>
      simp only [HT.ref] at k2; subst k2
      obtain ⟨⟨g, hg'⟩, _⟩ := k1
      rw [nodeF_got hg'] at h2
      exact absurd rfl h2
    | clash r' p' ls =>
      simp only [HT.ref] at k2; subst k2
      obtain ⟨⟨g, hg'⟩, _⟩ := k1
      rw [nodeF_got hg'] at h4
      exact absurd rfl h4
  · rintro rfl
    exact ⟨.nil, trivial, rfl, trivial, fun x hx => by simp [HT.lvs] at hx, by simp [HT.size, HT.lvs]⟩
theorem box_kids (k g s : Int) (zs : List Int) {i : Nat} (hi : i < 9) : ith (boxNd k g s zs).kids i = ith zs i := by
  have : i = 0 ∨ i = 1 ∨ i = 2 ∨ i = 3 ∨ i = 4 ∨ i = 5 ∨ i = 6 ∨ i = 7 ∨ i = 8 := by omega
  rcases this with rfl | rfl | rfl | rfl | rfl | rfl | rfl | rfl | rfl <;> rfl
theorem tabQ_trie {ns : List Nd} {lv : Nat} {q r : Int} (hq : 0 ≤ q) (hq' : q < (4 : Int) ^ lv) (hk : (nodeF ns r).k = 2) : TabQ ns lv q r ↔ lv < 10 ∧ TrieOk ns lv q (nodeF ns r) := by
  obtain ⟨p, hg⟩ := got_of (by rw [hk]; decide)
  constructor
  · rintro ⟨t, h1, h2, h3, h4, h5⟩
    cases t with
    | nil => simp only [HT.ref] at h2; subst h2; exact absurd rfl (got_nz hg)
    | leaf x =>
      simp only [HT.ref] at h2
      subst h2
      obtain ⟨g, e⟩ := Lv.nodeF h1
      rw [e] at hk
      simp [leafNd] at hk
    | clash r' p' ls =>
      simp only [HT.ref] at h2
      subst h2
      obtain ⟨⟨g, hg'⟩, _⟩ := h1
      rw [nodeF_got hg'] at hk
      simp [boxNd] at hk
    | trie r' p' a b c d =>
      simp only [HT.ref] at h2
      subst h2
      obtain ⟨⟨g, hg'⟩, k1, k2, k3, k4⟩ := h1
      obtain ⟨s1, s2, ⟨d0, d1, d2, d3⟩, e0, e1, e2, e3⟩ := h3
      rw [HT.size_trie] at h5
      have hL : ∀ x, x ∈ a.lvs ∨ x ∈ b.lvs ∨ x ∈ c.lvs ∨ x ∈ d.lvs → pas x.k lv = q := fun x hx => h4 x (by simpa [HT.lvs] using hx)
      have hP : ∀ (u : HT) (i : Nat), i < 4 → Dg lv i u → (∀ x ∈ u.lvs, pas x.k lv = q) → ∀ x ∈ u.lvs, pas x.k (lv + 1) = q + (i : Int) * (4 : Int) ^ lv := fun u i hi hd hu x hx => (pas_iff hq hq' (by omega) (by omega)).2 ⟨hu x hx, hd x hx⟩
      rw [nodeF_got hg']
      refine ⟨s1, ⟨?_, ?_, ?_, ?_⟩⟩
      · show (2 : Int) ≤ ((a.size + (b.size + (c.size + d.size)) : Nat) : Int); omega
      · show ((a.size + (b.size + (c.size + d.size)) : Nat) : Int) ≤ 200; omega
      · show boxNd 2 g _ [a.ref, b.ref, c.ref, d.ref] = boxNd 2 g (sumS ns [a.ref, b.ref, c.ref, d.ref]) [a.ref, b.ref, c.ref, d.ref]
        rw [sum4 (szF_rp k1) (szF_rp k2) (szF_rp k3) (szF_rp k4) (by omega)]
      · intro i hi
        rw [box_kids _ _ _ _ (by omega)]
        rcases (by omega : i = 0 ∨ i = 1 ∨ i = 2 ∨ i = 3) with rfl | rfl | rfl | rfl
        · exact ⟨a, k1, rfl, e0, hP a 0 (by omega) d0 (fun x hx => hL x (.inl hx)), by omega⟩
        · exact ⟨b, k2, rfl, e1, hP b 1 (by omega) d1 (fun x hx => hL x (.inr (.inl hx))), by omega⟩
        · exact ⟨c, k3, rfl, e2, hP c 2 (by omega) d2 (fun x hx => hL x (.inr (.inr (.inl hx)))), by omega⟩
        · exact ⟨d, k4, rfl, e3, hP d 3 (by omega) d3 (fun x hx => hL x (.inr (.inr (.inr hx)))), by omega⟩
  · rintro ⟨hlv, h1, h2, h3, h4⟩
    generalize nodeF ns r = x at *
    obtain ⟨a, a1, a2, a3, a4, a5⟩ := h4 0 (by omega)
    obtain ⟨b, b1, b2, b3, b4, b5⟩ := h4 1 (by omega)
    obtain ⟨c, c1, c2, c3, c4, c5⟩ := h4 2 (by omega)
    obtain ⟨d, d1, d2, d3, d4, d5⟩ := h4 3 (by omega)
    have ra : a.ref = x.r0 := a2
    have rb : b.ref = x.r1 := b2
    have rc : c.ref = x.r2 := c2
    have rd : d.ref = x.r3 := d2
    have hs := sum4 (ns := ns) (ra ▸ szF_rp a1) (rb ▸ szF_rp b1) (rc ▸ szF_rp c1) (rd ▸ szF_rp d1) (by omega)
    rw [hs] at h3
    have hxs : x.s = ((a.size + (b.size + (c.size + d.size)) : Nat) : Int) := by rw [h3]; rfl
    have hA : ∀ (u : HT) (i : Nat), i < 4 → (∀ y ∈ u.lvs, pas y.k (lv + 1) = q + (i : Int) * (4 : Int) ^ lv) → ∀ y ∈ u.lvs, pas y.k lv = q ∧ dig y.k lv = i := fun u i hi h y hy => (pas_iff hq hq' (by omega) (by omega)).1 (h y hy)
    refine ⟨.trie r p a b c d, ⟨⟨x.g, ?_⟩, a1, b1, c1, d1⟩, rfl, ⟨hlv, by omega, ⟨fun y hy => (hA a 0 (by omega) a4 y hy).2, fun y hy => (hA b 1 (by omega) b4 y hy).2, fun y hy => (hA c 2 (by omega) c4 y hy).2, fun y hy => (hA d 3 (by omega) d4 y hy).2⟩, a3, b3, c3, d3⟩, ?_, by rw [HT.size_trie]; omega⟩
    · rw [ra, rb, rc, rd, ← h3]; exact hg
    · intro y hy
      simp only [HT.lvs, List.mem_append] at hy
      rcases hy with hy | hy | hy | hy
      · exact (hA a 0 (by omega) a4 y hy).1
      · exact (hA b 1 (by omega) b4 y hy).1
      · exact (hA c 2 (by omega) c4 y hy).1
      · exact (hA d 3 (by omega) d4 y hy).1
theorem tabQ_clash {ns : List Nd} {lv : Nat} {q r : Int} (hk : (nodeF ns r).k = 4) : TabQ ns lv q r ↔ lv = 10 ∧ ClashOk ns q (nodeF ns r) := by
  obtain ⟨p, hg⟩ := got_of (by rw [hk]; decide)
  constructor
  · rintro ⟨t, h1, h2, h3, h4, h5⟩
    cases t with
    | nil => simp only [HT.ref] at h2; subst h2; exact absurd rfl (got_nz hg)
    | leaf x =>
      simp only [HT.ref] at h2
      subst h2
      obtain ⟨g, e⟩ := Lv.nodeF h1
      rw [e] at hk
      simp [leafNd] at hk
    | trie r' p' a b c d =>
      simp only [HT.ref] at h2
      subst h2
      obtain ⟨⟨g, hg'⟩, _⟩ := h1
      rw [nodeF_got hg'] at hk
      simp [boxNd] at hk
    | clash r' p' ls =>
      simp only [HT.ref] at h2
      subst h2
      obtain ⟨⟨g, hg'⟩, k1⟩ := h1
      obtain ⟨s1, s2, s3, s4⟩ := h3
      rw [nodeF_got hg']
      have hs : (boxNd 4 g (ls.length : Nat) (ls.map Lf.r)).s.toNat = ls.length := by simp [boxNd]
      have ht : ∀ i, i < 9 → ith ((boxNd 4 g (ls.length : Nat) (ls.map Lf.r)).kids.take ls.length) i = ith (ls.map Lf.r) i := fun i hi => by
        by_cases hil : i < ls.length
        · rw [← box_kids 4 g (ls.length : Nat) (ls.map Lf.r) hi]
          simp [ith, List.getD_eq_getElem?_getD, List.getElem?_take, hil]
        · rw [ith_map (by omega)]
          simp [ith, List.getD_eq_getElem?_getD, List.getElem?_take, hil]
      have htk : (boxNd 4 g (ls.length : Nat) (ls.map Lf.r)).kids.take ls.length = ls.map Lf.r := by
        refine List.ext_getElem (by simp [Nd.kids]; omega) fun i h1 h2 => ?_
        have h6 : i < ls.length := by simpa using h2
        have := ht i (by omega)
        rw [ith, ith, List.getD_eq_getElem?_getD, List.getD_eq_getElem?_getD, List.getElem?_eq_getElem h1, List.getElem?_eq_getElem h2] at this
        simpa using this
      refine ⟨s1, ⟨?_, ?_, ?_, ?_⟩⟩
      · show (2 : Int) ≤ (ls.length : Nat); omega
      · show ((ls.length : Nat) : Int) ≤ 9; omega
      · rw [hs, htk, sumS_leaves k1 (by omega)]; rfl
      · rw [hs]
        intro i hi
        have hkid : ∀ j, j < ls.length → ∃ y, ls[j]? = some y ∧ ith (boxNd 4 g (ls.length : Nat) (ls.map Lf.r)).kids j = y.r ∧ Lv ns y := fun j hj => by
          refine ⟨ls[j], List.getElem?_eq_getElem hj, ?_, k1 _ (List.getElem_mem hj)⟩
          rw [box_kids _ _ _ _ (by omega)]
          simp [ith, List.getD_eq_getElem?_getD, hj]
        obtain ⟨y, y1, y2, y3⟩ := hkid i hi
        rw [y2]
        obtain ⟨gy, ey⟩ := y3.nodeF
        refine ⟨by rw [ey]; rfl, ⟨.leaf y, y3, rfl, trivial, fun z hz => ?_, by simp [HT.size, HT.lvs]⟩, fun h0 => ?_⟩
        · simp [HT.lvs] at hz
          rw [hz, ← s1]
          exact h4 y (by simp only [HT.lvs]; exact List.mem_of_getElem? y1)
        · obtain ⟨u, u1, u2, u3⟩ := hkid (i - 1) (by omega)
          rw [u2]
          obtain ⟨gu, eu⟩ := u3.nodeF
          rw [eu, ey]
          show u.k < y.k
          obtain ⟨a1, a2⟩ := List.getElem?_eq_some_iff.1 u1
          obtain ⟨b1, b2⟩ := List.getElem?_eq_some_iff.1 y1
          rw [← a2, ← b2]
          exact List.pairwise_iff_getElem.1 s4 (i - 1) i a1 b1 (by omega)
  · rintro ⟨rfl, h1, h2, h3, h4⟩
    generalize nodeF ns r = x at *
    obtain ⟨m, hm⟩ : ∃ m : Nat, x.s = m := Int.eq_ofNat_of_zero_le (by omega)
    rw [hm] at h3 h4
    simp only [Int.toNat_natCast] at h3 h4
    have hm9 : m ≤ 9 := by omega
    have hall : ∀ k, k ≤ m → ∃ ls : List Lf, ls.map Lf.r = x.kids.take k ∧ (∀ y ∈ ls, Lv ns y ∧ pas y.k 10 = q) ∧ ls.Pairwise (fun a b => a.k < b.k) ∧ (∀ y, ls.getLast? = some y → y.k = (nodeF ns (ith x.kids (k - 1))).n) := by
      intro k
      induction k with
      | zero => intro _; exact ⟨[], by simp, by simp, List.Pairwise.nil, by simp⟩
      | succ k ih =>
        intro hk1
        obtain ⟨ls, i1, i2, i3, i4⟩ := ih (by omega)
        obtain ⟨j1, j2, j3⟩ := h4 k (by omega)
        obtain ⟨e, hp⟩ := (tabQ_leaf j1).1 j2
        obtain ⟨pk, hgk⟩ := got_of (ns := ns) (r := ith x.kids k) (by rw [j1]; decide)
        have hk9 : x.kids[k]? = some (ith x.kids k) := ith_of _ (by simp [Nd.kids]; omega)
        have hlen : ls.length = k := by have := congrArg List.length i1; simp [Nd.kids] at this; omega
        refine ⟨ls ++ [⟨ith x.kids k, pk, (nodeF ns (ith x.kids k)).n, (nodeF ns (ith x.kids k)).v⟩], ?_, ?_, ?_, ?_⟩
        · rw [List.map_append, i1, List.take_add_one, hk9]; rfl
        · intro y hy
          rcases List.mem_append.1 hy with hy | hy
          · exact i2 y hy
          · rw [List.mem_singleton.1 hy]
            exact ⟨⟨_, by rw [← e]; exact hgk⟩, hp⟩
        · rw [List.pairwise_append]
          refine ⟨i3, by simp, fun a ha b hb => ?_⟩
          rw [List.mem_singleton.1 hb]
          show a.k < (nodeF ns (ith x.kids k)).n
          rcases Nat.eq_zero_or_pos k with h0 | h0
          · rw [List.eq_nil_of_length_eq_zero (by omega : ls.length = 0)] at ha; cases ha
          · have hlt := j3 h0
            obtain ⟨la, hla⟩ : ∃ la, ls.getLast? = some la := by
              cases hq : ls.getLast? with
              | none => rw [List.getLast?_eq_none_iff.1 hq] at hlen; simp at hlen; omega
              | some la => exact ⟨la, rfl⟩
            have e4 := i4 la hla
            obtain ⟨init, rfl⟩ := List.getLast?_eq_some_iff.1 hla
            rcases List.mem_append.1 ha with ha | ha
            · have := (List.pairwise_append.1 i3).2.2 a ha la (by simp)
              omega
            · rw [List.mem_singleton.1 ha]; omega
        · intro y hy
          simp at hy
          rw [← hy]
          simp
    obtain ⟨ls, i1, i2, i3, i4⟩ := hall m (Nat.le_refl _)
    have hlen : ls.length = m := by have := congrArg List.length i1; simp [Nd.kids] at this; omega
    have hsum := sumS_leaves (ns := ns) (ls := ls) (fun y hy => (i2 y hy).1) (by omega)
    rw [← i1, hsum] at h3
    refine ⟨.clash r p ls, ⟨⟨x.g, by rw [← h3]; exact hg⟩, fun y hy => (i2 y hy).1⟩, rfl, ⟨rfl, by omega, by omega, i3⟩, fun y hy => (i2 y hy).2, by simp [HT.size, HT.lvs]; omega⟩

end Go.Proofs.Ytfoifcbaadnigaa
