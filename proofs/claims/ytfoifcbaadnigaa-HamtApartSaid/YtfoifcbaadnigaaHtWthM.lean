/-
  What stands where a key's new leaf comes in the place of its old one: the mathematics of with.
-/
import Derived.Test.YtfoifcbaadnigaaHtDelF
set_option linter.unusedVariables false
set_option linter.unusedSimpArgs false
namespace Go.Proofs.Ytfoifcbaadnigaa
open Go.RowKit

def offK (key : Int) (ls : List Lf) : List Lf := ls.filter (fun y => !(y.k == key))
def newLs (key : Int) (t : HT) (new : List Lf) : List Lf := offK key t.lvs ++ new
structure WG (ns : List Nd) (key : Int) (lv : Nat) (t : HT) (new : List Lf) : Prop where
  tr : Tr ns lv t
  one : new.length ≤ 1
  nw : ∀ y ∈ new, Lv ns y ∧ U y.r ∧ y.k = key
  ne : t.lvs.Pairwise (fun a b => hsI a.k ≠ hsI b.k)
  ky : ∀ y ∈ t.lvs, hsI y.k = hsI key → y.k = key
  ps : ∀ y ∈ t.lvs, pas y.k lv = pas key lv
  le : t.size + new.length ≤ 201
  le2 : (newLs key t new).length ≤ 200
theorem offK_le (key : Int) (ls : List Lf) : (offK key ls).length ≤ ls.length := List.length_filter_le _ _
theorem offK_app (key : Int) (a b : List Lf) : offK key (a ++ b) = offK key a ++ offK key b := List.filter_append _ _
theorem offK_none {key : Int} {ls : List Lf} (h : ∀ y ∈ ls, y.k ≠ key) : offK key ls = ls := List.filter_eq_self.2 (fun y hy => by simp [h y hy])
theorem offK_one (key : Int) : ∀ {ls : List Lf}, ls.Pairwise (fun a b => hsI a.k ≠ hsI b.k) → ls.length ≤ (offK key ls).length + 1
  | [], _ => by simp
  | x :: ls, h => by
    have h' := List.pairwise_cons.1 h
    by_cases hx : x.k = key
    · have e : offK key (x :: ls) = offK key ls := by simp [offK, hx]
      rw [e, offK_none (fun y hy e => h'.1 y hy (by rw [hx, e]))]
      simp
    · have e : offK key (x :: ls) = x :: offK key ls := by simp [offK, hx]
      rw [e]
      have := offK_one key h'.2
      simp; omega
theorem WG.mono {ns ns' : List Nd} (hk : ∀ r p x, Got ns r p x → Got ns' r p x) {key : Int} {lv : Nat} {t : HT} {new : List Lf} (h : WG ns key lv t new) : WG ns' key lv t new :=
  ⟨h.tr.mono hk, h.one, fun y hy => ⟨Lv.mono hk (h.nw y hy).1, (h.nw y hy).2⟩, h.ne, h.ky, h.ps, h.le, h.le2⟩
/-- A table whose keys' hashes are unlike has no clash. -/
theorem WG.noClash {ns : List Nd} {key : Int} {lv : Nat} {r : Int} {p : Nat} {ls : List Lf} {new : List Lf} (h : WG ns key lv (.clash r p ls) new) : False := by
  have hs := h.tr.sh
  obtain ⟨rfl, h2, _, _⟩ := hs
  match ls, h2, h with
  | a :: b :: l, _, h =>
    have h1 := h.ps a (by simp [HT.lvs])
    have h3 := h.ps b (by simp [HT.lvs])
    rw [pas_all, pas_all] at h1 h3
    exact (List.pairwise_cons.1 h.ne).1 b (by simp) (h1.trans h3.symm)
/-- The leaves that a table is made of, where no digits are told apart. -/
theorem WG.good {ns : List Nd} (hok : ∀ x ∈ ns, x.Ok) {key : Int} {lv : Nat} {t : HT} {new : List Lf} (h : WG ns key lv t new) : Good ns lv (newLs key t new) := by
  have hm : ∀ y ∈ newLs key t new, (y ∈ t.lvs ∧ y.k ≠ key) ∨ y ∈ new := fun y hy => by
    rcases List.mem_append.1 hy with hy | hy
    · exact .inl (by simpa [offK] using hy)
    · exact .inr hy
  refine ⟨fun y hy => ?_, fun y hy => ?_, ?_, pas key lv, fun y hy => ?_⟩
  · rcases hm y hy with ⟨hy, _⟩ | hy
    · exact rp_lvs h.tr.rp hy
    · exact (h.nw y hy).1
  · rcases hm y hy with ⟨hy, _⟩ | hy
    · exact rp_u hok h.tr.rp h.tr.sh h.tr.u y hy
    · exact (h.nw y hy).2.1
  · unfold newLs
    rw [List.pairwise_append]
    refine ⟨List.Pairwise.filter _ h.ne, ?_, fun a ha b hb e => ?_⟩
    · match new, h.one with
      | [], _ => exact List.Pairwise.nil
      | [_], _ => simp
    · have ha' : a ∈ t.lvs ∧ a.k ≠ key := by simpa [offK] using ha
      rw [(h.nw b hb).2.2] at e
      exact ha'.2 (h.ky a ha'.1 e)
  · rcases hm y hy with ⟨hy, _⟩ | hy
    · exact h.ps y hy
    · rw [(h.nw y hy).2.2]
theorem ctF_two {ns : List Nd} : ∀ (f lv : Nat) (ls : List Lf), lv + f = 10 → Good ns lv ls → ls.length ≤ 2 → ctF f lv ls ≤ f := by
  intro f
  induction f with
  | zero =>
    intro lv ls hf hg _
    obtain rfl : lv = 10 := by omega
    rw [ctF_one hg.last]
    exact Nat.le_refl _
  | succ f ih =>
    intro lv ls hf hg hl
    by_cases h1 : ls.length ≤ 1
    · rw [ctF_one h1]; omega
    simp only [ctF, if_neg h1]
    have hs := ofL_len lv ls
    have b : ∀ i : Int, (ofL ls lv i).length ≤ 2 → ctF f (lv + 1) (ofL ls lv i) ≤ f := fun i hi => ih (lv + 1) _ (by omega) (hg.of i) hi
    have z : ∀ i : Int, (ofL ls lv i).length ≤ 1 → ctF f (lv + 1) (ofL ls lv i) = 0 := fun i hi => ctF_one hi
    have b0 := b 0 (by omega)
    have b1 := b 1 (by omega)
    have b2 := b 2 (by omega)
    have b3 := b 3 (by omega)
    have z0 := z 0
    have z1 := z 1
    have z2 := z 2
    have z3 := z 3
    rcases (by omega : (2 ≤ (ofL ls lv 0).length ∧ (ofL ls lv 1).length = 0 ∧ (ofL ls lv 2).length = 0 ∧ (ofL ls lv 3).length = 0) ∨ ((ofL ls lv 0).length = 0 ∧ 2 ≤ (ofL ls lv 1).length ∧ (ofL ls lv 2).length = 0 ∧ (ofL ls lv 3).length = 0) ∨ ((ofL ls lv 0).length = 0 ∧ (ofL ls lv 1).length = 0 ∧ 2 ≤ (ofL ls lv 2).length ∧ (ofL ls lv 3).length = 0) ∨ ((ofL ls lv 0).length = 0 ∧ (ofL ls lv 1).length = 0 ∧ (ofL ls lv 2).length = 0 ∧ 2 ≤ (ofL ls lv 3).length) ∨ ((ofL ls lv 0).length ≤ 1 ∧ (ofL ls lv 1).length ≤ 1 ∧ (ofL ls lv 2).length ≤ 1 ∧ (ofL ls lv 3).length ≤ 1)) with ⟨h0, h1, h2, h3⟩ | ⟨h0, h1, h2, h3⟩ | ⟨h0, h1, h2, h3⟩ | ⟨h0, h1, h2, h3⟩ | ⟨h0, h1, h2, h3⟩
    · rw [z1 (by omega), z2 (by omega), z3 (by omega)]; omega
    · rw [z0 (by omega), z2 (by omega), z3 (by omega)]; omega
    · rw [z0 (by omega), z1 (by omega), z3 (by omega)]; omega
    · rw [z0 (by omega), z1 (by omega), z2 (by omega)]; omega
    · rw [z0 (by omega), z1 (by omega), z2 (by omega), z3 (by omega)]; omega
theorem mid_perm {α : Type} (l x n r : List α) : (l ++ ((x ++ n) ++ r)).Perm ((l ++ (x ++ r)) ++ n) := by
  simp only [List.append_assoc]
  exact (List.perm_append_comm.append_left x).append_left l
/-- A kid of a trie by its digit. -/
theorem WG.kid {ns : List Nd} {key : Int} {lv : Nat} {r : Int} {p : Nat} {a b c d : HT} {new : List Lf} (hok : ∀ x ∈ ns, x.Ok) (h : WG ns key lv (.trie r p a b c d) new) :
    (dig key lv = 0 → WG ns key (lv + 1) a new ∧ offK key b.lvs = b.lvs ∧ offK key c.lvs = c.lvs ∧ offK key d.lvs = d.lvs) ∧
    (dig key lv = 1 → WG ns key (lv + 1) b new ∧ offK key a.lvs = a.lvs ∧ offK key c.lvs = c.lvs ∧ offK key d.lvs = d.lvs) ∧
    (dig key lv = 2 → WG ns key (lv + 1) c new ∧ offK key a.lvs = a.lvs ∧ offK key b.lvs = b.lvs ∧ offK key d.lvs = d.lvs) ∧
    (dig key lv = 3 → WG ns key (lv + 1) d new ∧ offK key a.lvs = a.lvs ∧ offK key b.lvs = b.lvs ∧ offK key c.lvs = c.lvs) := by
  obtain ⟨⟨hR, hS, hU⟩, h2, h3, h4, h5, h6, h7, h8⟩ := h
  obtain ⟨⟨g, hg⟩, r0, r1, r2, r3⟩ := hR
  obtain ⟨s0, _, ⟨d0, d1, d2, d3⟩, s1, s2, s3, s4⟩ := hS
  have hx := hok _ (List.mem_of_getElem? hg.at_)
  have u0 : U a.ref := ok_kid hx 0
  have u1 : U b.ref := ok_kid hx 1
  have u2 : U c.ref := ok_kid hx 2
  have u3 : U d.ref := ok_kid hx 3
  have hno : ∀ (u : HT) (i : Int), Dg lv i u → dig key lv ≠ i → offK key u.lvs = u.lvs := fun u i hd hne => offK_none fun y hy e => hne (by rw [← e]; exact hd y hy)
  simp only [HT.lvs, List.pairwise_append, HT.size_trie] at h4 h7
  simp only [HT.lvs, List.mem_append] at h5 h6
  unfold newLs at h8
  simp only [HT.lvs, offK_app, List.length_append] at h8
  have hpas : ∀ (u : HT) (i : Int), Dg lv i u → dig key lv = i → (∀ y ∈ u.lvs, pas y.k lv = pas key lv) → ∀ y ∈ u.lvs, pas y.k (lv + 1) = pas key (lv + 1) := fun u i hd hi hp y hy => by
    rw [pas_succ, pas_succ, hp y hy, hd y hy, hi]
  refine ⟨fun hd => ⟨⟨⟨r0, s1, u0⟩, h2, h3, h4.1, fun y hy => h5 y (.inl hy), hpas a 0 d0 hd fun y hy => h6 y (.inl hy), ?_, ?_⟩, hno b 1 d1 (by omega), hno c 2 d2 (by omega), hno d 3 d3 (by omega)⟩,
    fun hd => ⟨⟨⟨r1, s2, u1⟩, h2, h3, h4.2.1.1, fun y hy => h5 y (.inr (.inl hy)), hpas b 1 d1 hd fun y hy => h6 y (.inr (.inl hy)), ?_, ?_⟩, hno a 0 d0 (by omega), hno c 2 d2 (by omega), hno d 3 d3 (by omega)⟩,
    fun hd => ⟨⟨⟨r2, s3, u2⟩, h2, h3, h4.2.1.2.1.1, fun y hy => h5 y (.inr (.inr (.inl hy))), hpas c 2 d2 hd fun y hy => h6 y (.inr (.inr (.inl hy))), ?_, ?_⟩, hno a 0 d0 (by omega), hno b 1 d1 (by omega), hno d 3 d3 (by omega)⟩,
    fun hd => ⟨⟨⟨r3, s4, u3⟩, h2, h3, h4.2.1.2.1.2.1, fun y hy => h5 y (.inr (.inr (.inr hy))), hpas d 3 d3 hd fun y hy => h6 y (.inr (.inr (.inr hy))), ?_, ?_⟩, hno a 0 d0 (by omega), hno b 1 d1 (by omega), hno c 2 d2 (by omega)⟩⟩
  all_goals first
    | (simp only [newLs, List.length_append]; omega)
    | omega

end Go.Proofs.Ytfoifcbaadnigaa
