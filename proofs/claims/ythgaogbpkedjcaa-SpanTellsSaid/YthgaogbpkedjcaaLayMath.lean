/-
  What the laying of a row makes of nodes.
-/
import Derived.Test.YthgaogbpkedjcaaGH
import Derived.Test.YthgaogbpkedjcaaTrMade
set_option linter.unusedVariables false
set_option linter.unusedSimpArgs false
namespace Go.Proofs.Ythgaogbpkedjcaa
open Go.RowKit

/-- From a place on a row lies as a map; all other nodes are as they were. -/
structure Laid (ns ns' : List Nd) (p : Nat) (l : Row) (z : Int) : Prop where
  len : ns'.length = ns.length
  out : ∀ i, (i < p ∨ p + l.length ≤ i) → ns'[i]? = ns[i]?
  nd : ∀ i, p ≤ i → i < p + l.length → ∃ k v s r0 r1, ns'[i]? = some (trNd 0 k v s r0 r1) ∧ RefMay r0 ∧ RefMay r1 ∧ U r0 ∧ U r1
  tree : ∃ t, t.row = l ∧ Hp t ∧ t.ref = z ∧ ∀ ns'' : List Nd, (∀ i, p ≤ i → i < p + l.length → ns''[i]? = ns'[i]?) → Rep ns'' t
  may : RefMay z
  u : U z

theorem laid_nil (ns : List Nd) (p : Nat) : Laid ns ns p [] 0 :=
  ⟨rfl, fun _ _ => rfl, fun i h1 h2 => by simp at h2; omega, ⟨.nil, rfl, trivial, rfl, fun _ _ => trivial⟩, .inl rfl, U.zero⟩

theorem laid_node {ns ns1 ns2 : List Nd} {p : Nat} {a b : Row} {k v z1 z2 : Int} (h1 : Laid ns ns1 (p + 1) a z1) (h2 : Laid ns1 ns2 (p + 1 + a.length) b z2) (ha : ∀ y ∈ a, Bef k y.1) (hb : ∀ y ∈ b, Bef k y.1) (hp : p + (a.length + b.length + 1) ≤ ns.length) (hn : ns.length ≤ 512) (m : Nat) (hm : m = a.length + b.length + 1) :
    Laid ns (ns2.set p (trNd 0 k v (m : Int) z1 z2)) p (a ++ (k, v) :: b) ((p + 1 : Nat) : Int) := by
  subst hm
  have hl : (a ++ (k, v) :: b).length = a.length + b.length + 1 := by simp; omega
  have e2 : ns2.length = ns.length := h2.len.trans h1.len
  have hz : ((p + 1 : Nat) : Int) = (p : Int) + 1 := by omega
  have hnode : Node ((p + 1 : Nat) : Int) := ⟨by omega, by omega, by omega⟩
  obtain ⟨t1, a1, a2, a3, a4⟩ := h1.tree
  obtain ⟨t2, b1, b2, b3, b4⟩ := h2.tree
  have hget : ∀ i, i ≠ p → (ns2.set p (trNd 0 k v ((a.length + b.length + 1 : Nat) : Int) z1 z2))[i]? = ns2[i]? := fun i hi => List.getElem?_set_ne (Ne.symm hi)
  have hgetp : (ns2.set p (trNd 0 k v ((a.length + b.length + 1 : Nat) : Int) z1 z2))[p]? = some (trNd 0 k v ((a.length + b.length + 1 : Nat) : Int) z1 z2) := List.getElem?_set_self (by omega)
  refine ⟨by rw [List.length_set]; exact e2, fun i hi => ?_, fun i g1 g2 => ?_, ⟨.node ((p + 1 : Nat) : Int) t1 k v t2, by simp [T.row, a1, b1], ⟨by rw [a1]; exact ha, by rw [b1]; exact hb, a2, b2⟩, rfl, fun ns'' hs => ?_⟩, .inr hnode, ⟨by omega, by omega⟩⟩
  · rw [hl] at hi
    rw [hget i (by omega), h2.out i (by omega), h1.out i (by omega)]
  · rw [hl] at g2
    by_cases e : i = p
    · subst e
      exact ⟨_, _, _, _, _, hgetp, h1.may, h2.may, h1.u, h2.u⟩
    · rw [hget i e]
      by_cases e' : i < p + 1 + a.length
      · rw [h2.out i (by omega)]
        exact h1.nd i (by omega) (by omega)
      · exact h2.nd i (by omega) (by omega)
  · rw [hl] at hs
    refine ⟨⟨p, 0, hnode, by omega, ?_, by simp [trNd], ?_⟩, a4 ns'' fun i g1 g2 => ?_, b4 ns'' fun i g1 g2 => ?_⟩
    · rw [hs p (by omega) (by omega), hgetp, a3, b3, ← T.row_length, ← T.row_length, a1, b1]
    · simp [trNd]; omega
    · rw [hs i (by omega) (by omega), hget i (by omega), h2.out i (by omega)]
    · rw [hs i (by omega) (by omega), hget i (by omega)]

/-- Places from the last one down to a number. -/
def downTo (n m : Nat) : List Int := (List.range (n - m)).map fun (i : Nat) => (n : Int) - 1 - i
theorem downTo_self (n : Nat) : downTo n n = [] := by simp [downTo]
theorem downTo_len (n m : Nat) : (downTo n m).length = n - m := by simp [downTo]
theorem downTo_succ {n m : Nat} (h : m < n) : downTo n (m + 1) ++ [(m : Int)] = downTo n m := by
  unfold downTo
  rw [show n - m = (n - (m + 1)) + 1 by omega, List.range_succ, List.map_append]
  congr 1
  simp
  omega
theorem laid_may {n : Nat} {ns' : List Nd} {l : Row} {z : Int} (h : Laid (List.replicate n (bare 0)) ns' 0 l z) (h1 : 1 ≤ n) (h2 : n ≤ 512) (hl : l.length ≤ n) : ArMay ns' (downTo n l.length) := by
  have hlen : ns'.length = n := by rw [h.len]; simp
  have hcase : ∀ (i : Nat) (x : Nd), ns'[i]? = some x → (i < l.length ∧ ∃ k v s r0 r1, x = trNd 0 k v s r0 r1 ∧ RefMay r0 ∧ RefMay r1) ∨ (l.length ≤ i ∧ i < n ∧ x = bare 0) := by
    intro i x hx
    have hi : i < n := by have := (List.getElem?_eq_some_iff.1 hx).1; omega
    by_cases e : i < l.length
    · obtain ⟨k, v, s, r0, r1, e1, q0, q1, _⟩ := h.nd i (by omega) (by omega)
      rw [hx] at e1
      injection e1 with e1
      exact .inl ⟨e, k, v, s, r0, r1, e1, q0, q1⟩
    · rw [h.out i (by omega)] at hx
      exact .inr ⟨by omega, hi, List.eq_of_mem_replicate (List.mem_of_getElem? hx)⟩
  refine ⟨by omega, by omega, fun x hx => ?_, fun y hy => ?_, ?_, fun i x hx => ?_⟩
  · obtain ⟨i, hi⟩ := List.getElem?_of_mem hx
    rcases hcase i x hi with ⟨_, k, v, s, r0, r1, rfl, q0, q1⟩ | ⟨_, _, rfl⟩
    · exact ⟨⟨by simp [trNd], by simp [trNd]⟩, .inr ⟨by simp [trNd], (makes_tr q0 q1).2.2⟩⟩
    · exact bare_fits ⟨by omega, by omega⟩
  · simp only [downTo, List.mem_map, List.mem_range] at hy
    obtain ⟨i, hi, rfl⟩ := hy
    rw [hlen]
    exact ⟨by omega, by omega⟩
  · unfold downTo
    rw [List.nodup_iff_pairwise_ne, List.pairwise_map]
    exact List.pairwise_lt_range.imp (fun {a b} hab => by omega)
  · simp only [downTo, List.mem_map, List.mem_range]
    rcases hcase i x hx with ⟨hi, k, v, s, r0, r1, rfl, _⟩ | ⟨hi, hi2, rfl⟩
    · constructor
      · rintro ⟨j, hj, e⟩; omega
      · intro e; simp [trNd] at e
    · exact ⟨fun _ => rfl, fun _ => ⟨n - 1 - i, by omega, by omega⟩⟩
theorem laid_ok {n : Nat} {ns' : List Nd} {l : Row} {z : Int} (h : Laid (List.replicate n (bare 0)) ns' 0 l z) : ∀ x ∈ ns', x.Ok := by
  intro x hx
  obtain ⟨i, hi⟩ := List.getElem?_of_mem hx
  by_cases e : i < l.length
  · obtain ⟨k, v, s, r0, r1, e1, _, _, q0, q1⟩ := h.nd i (by omega) (by omega)
    rw [hi] at e1
    injection e1 with e1
    rw [e1]
    exact ok_tr q0 q1
  · rw [h.out i (by omega)] at hi
    rw [List.eq_of_mem_replicate (List.mem_of_getElem? hi)]
    intro r hr
    simp [bare, Nd.kids] at hr
    subst hr
    exact ⟨by omega, by omega⟩
theorem laid_map {n : Nat} {ns' : List Nd} {l : Row} {z : Int} (h : Laid (List.replicate n (bare 0)) ns' 0 l z) (hs : Srt l) (hl : l.length ≤ 200) : ∃ t, Mp ns' t ∧ t.ref = z ∧ t.row = l := by
  obtain ⟨t, h1, h2, h3, h4⟩ := h.tree
  exact ⟨t, ⟨h4 ns' (fun _ _ _ => rfl), by rw [h1]; exact hs, h2, by rw [← T.row_length, h1]; exact hl⟩, h3, h1⟩

end Go.Proofs.Ythgaogbpkedjcaa
