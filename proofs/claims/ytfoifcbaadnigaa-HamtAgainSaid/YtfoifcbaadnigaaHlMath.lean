/-
  What the laying of a row makes of nodes, as a table.
-/
import Derived.Test.YtfoifcbaadnigaaHtTrie
import Derived.Test.YtfoifcbaadnigaaArV
set_option linter.unusedVariables false
set_option linter.unusedSimpArgs false
namespace Go.Proofs.Ytfoifcbaadnigaa
open Go.RowKit

/-- From a place on a row lies as a table at a level; all other nodes are as they were. -/
structure LaidH (ns ns' : List Nd) (p cnt lv : Nat) (l : Row) (z : Int) : Prop where
  len : ns'.length = ns.length
  out : ∀ i, (i < p ∨ p + cnt ≤ i) → ns'[i]? = ns[i]?
  nd : ∀ i, p ≤ i → i < p + cnt → ∃ x, ns'[i]? = some x ∧ x.Makes ∧ x.g = 0 ∧ x.Ok
  tree : ∃ t : HT, t.row.Perm l ∧ Sh lv t ∧ t.ref = z ∧ ∀ ns'' : List Nd, (∀ i, p ≤ i → i < p + cnt → ns''[i]? = ns'[i]?) → Rp ns'' t
  may : RefMay z
  u : U z
  few : cnt ≤ l.length + (11 - lv) * (l.length / 2)
theorem laidH_nil (ns : List Nd) (p lv : Nat) : LaidH ns ns p 0 lv [] 0 :=
  ⟨rfl, fun _ _ => rfl, fun i h1 h2 => by omega, ⟨.nil, List.Perm.refl _, trivial, rfl, fun _ _ => trivial⟩, .inl rfl, U.zero, by simp⟩
theorem node_p {p : Nat} (h : p < 512) : Node ((p + 1 : Nat) : Int) := by
  have hz : ((p + 1 : Nat) : Int) = (p : Int) + 1 := by omega
  exact ⟨by omega, by omega, by omega⟩
theorem got_p {ns : List Nd} {p : Nat} {x : Nd} (h : p < 512) (hx : ns[p]? = some x) (hk : x.k ≠ 0) (hg : x.g = 0) : Got ns ((p + 1 : Nat) : Int) p x :=
  ⟨node_p h, by omega, hx, hk, by rw [hg]; omega⟩
theorem laidH_leaf {ns : List Nd} {p : Nat} (hp : p < ns.length) (hn : ns.length ≤ 512) (lv : Nat) (k v : Int) : LaidH ns (ns.set p (leafNd 0 k v)) p 1 lv [(k, v)] ((p + 1 : Nat) : Int) := by
  have hgetp : (ns.set p (leafNd 0 k v))[p]? = some (leafNd 0 k v) := List.getElem?_set_self hp
  refine ⟨by rw [List.length_set], fun i hi => List.getElem?_set_ne (by omega), fun i h1 h2 => ?_, ⟨.leaf ⟨((p + 1 : Nat) : Int), p, k, v⟩, List.Perm.refl _, trivial, rfl, fun ns'' hs => ⟨0, ?_⟩⟩, .inr (node_p (by omega)), ⟨by omega, by omega⟩, by simp⟩
  · obtain rfl : i = p := by omega
    refine ⟨_, hgetp, ⟨by simp [leafNd], by simp [leafNd], ⟨by simp [leafNd], by simp [leafNd]⟩, ⟨by simp [leafNd], by simp [leafNd]⟩, fun r hr => ?_⟩, rfl, fun r hr => ?_⟩
    · simp [leafNd, Nd.kids] at hr
      subst hr
      exact .inl rfl
    · simp [leafNd, Nd.kids] at hr
      subst hr
      exact ⟨by omega, by omega⟩
  · exact got_p (by omega) (by rw [hs p (by omega) (by omega)]; exact hgetp) (by simp [leafNd]) rfl
/-- How many nodes a row needs at a level. -/
def need (lv : Nat) (l : Row) : Nat := l.length + (11 - lv) * (l.length / 2)
theorem need4 {lv : Nat} (hlv : lv < 10) {l : Row} (hl : 2 ≤ l.length) : need (lv + 1) (ofD l lv 0) + need (lv + 1) (ofD l lv 1) + need (lv + 1) (ofD l lv 2) + need (lv + 1) (ofD l lv 3) + 1 ≤ need lv l := by
  have h := of_len lv l
  unfold need
  obtain ⟨d, hd⟩ : ∃ d, d = 11 - (lv + 1) := ⟨_, rfl⟩
  rw [← hd, show 11 - lv = d + 1 by omega, Nat.add_mul]
  generalize (ofD l lv 0).length = a0 at *
  generalize (ofD l lv 1).length = a1 at *
  generalize (ofD l lv 2).length = a2 at *
  generalize (ofD l lv 3).length = a3 at *
  have h2 : a0 / 2 + a1 / 2 + a2 / 2 + a3 / 2 ≤ l.length / 2 := by omega
  have h3 := Nat.mul_le_mul_left d h2
  rw [Nat.mul_add, Nat.mul_add, Nat.mul_add] at h3
  omega
theorem laidH_trie {ns ns1 ns2 ns3 ns4 : List Nd} {p c0 c1 c2 c3 lv : Nat} {l : Row} {z0 z1 z2 z3 : Int} (h0 : LaidH ns ns1 p c0 (lv + 1) (ofD l lv 0) z0) (h1 : LaidH ns1 ns2 (p + c0) c1 (lv + 1) (ofD l lv 1) z1) (h2 : LaidH ns2 ns3 (p + c0 + c1) c2 (lv + 1) (ofD l lv 2) z2) (h3 : LaidH ns3 ns4 (p + c0 + c1 + c2) c3 (lv + 1) (ofD l lv 3) z3)
    (hl : 2 ≤ l.length) (hl2 : l.length ≤ 1000) (hlv : lv < 10) (hb : p + c0 + c1 + c2 + c3 < ns.length) (hn : ns.length ≤ 512) :
    LaidH ns (ns4.set (p + c0 + c1 + c2 + c3) (boxNd 2 0 (l.length : Nat) [z0, z1, z2, z3])) p (c0 + c1 + c2 + c3 + 1) lv l ((p + c0 + c1 + c2 + c3 + 1 : Nat) : Int) := by
  obtain ⟨q, hq⟩ : ∃ q, q = p + c0 + c1 + c2 + c3 := ⟨_, rfl⟩
  rw [← hq] at hb ⊢
  have e1 := h0.len
  have e2 := h1.len
  have e3 := h2.len
  have e4 := h3.len
  have hq4 : q < ns4.length := by omega
  have hget : ∀ i, i ≠ q → (ns4.set q (boxNd 2 0 (l.length : Nat) [z0, z1, z2, z3]))[i]? = ns4[i]? := fun i hi => List.getElem?_set_ne (Ne.symm hi)
  have hgetq : (ns4.set q (boxNd 2 0 (l.length : Nat) [z0, z1, z2, z3]))[q]? = some (boxNd 2 0 (l.length : Nat) [z0, z1, z2, z3]) := List.getElem?_set_self hq4
  have a0 : ∀ i, i < p + c0 → ns4[i]? = ns1[i]? := fun i hi => by rw [h3.out i (by omega), h2.out i (by omega), h1.out i (by omega)]
  have a1 : ∀ i, i < p + c0 + c1 → ns4[i]? = ns2[i]? := fun i hi => by rw [h3.out i (by omega), h2.out i (by omega)]
  have a2 : ∀ i, i < p + c0 + c1 + c2 → ns4[i]? = ns3[i]? := fun i hi => by rw [h3.out i (by omega)]
  obtain ⟨t0, p0, s0, r0, k0⟩ := h0.tree
  obtain ⟨t1, p1, s1, r1, k1⟩ := h1.tree
  obtain ⟨t2, p2, s2, r2, k2⟩ := h2.tree
  obtain ⟨t3, p3, s3, r3, k3⟩ := h3.tree
  have hlen : t0.size + (t1.size + (t2.size + t3.size)) = l.length := by
    rw [← HT.row_length, ← HT.row_length, ← HT.row_length, ← HT.row_length, p0.length_eq, p1.length_eq, p2.length_eq, p3.length_eq, of_len]
  have hmk : (boxNd 2 0 (l.length : Nat) [z0, z1, z2, z3]).Makes := makes_box (by omega) (by omega) (by omega) (by omega) (ith4 (P := RefMay) (.inl rfl) h0.may h1.may h2.may h3.may)
  have hok : (boxNd 2 0 (l.length : Nat) [z0, z1, z2, z3]).Ok := ok_box (ith4 (P := U) U.zero h0.u h1.u h2.u h3.u)
  have hne := need4 hlv hl
  have f0 : c0 ≤ need (lv + 1) (ofD l lv 0) := h0.few
  have f1 : c1 ≤ need (lv + 1) (ofD l lv 1) := h1.few
  have f2 : c2 ≤ need (lv + 1) (ofD l lv 2) := h2.few
  have f3 : c3 ≤ need (lv + 1) (ofD l lv 3) := h3.few
  refine ⟨by rw [List.length_set]; omega, fun i hi => ?_, fun i g1 g2 => ?_, ⟨.trie ((q + 1 : Nat) : Int) q t0 t1 t2 t3, ?_, ⟨hlv, by omega, ⟨?_, ?_, ?_, ?_⟩, s0, s1, s2, s3⟩, rfl, fun ns'' hs => ⟨⟨0, ?_⟩, ?_, ?_, ?_, ?_⟩⟩, .inr (node_p (by omega)), ⟨by omega, by omega⟩, ?_⟩
  · rw [hget i (by omega), h3.out i (by omega), h2.out i (by omega), h1.out i (by omega), h0.out i (by omega)]
  · by_cases e : i = q
    · subst e
      exact ⟨_, hgetq, hmk, rfl, hok⟩
    · rw [hget i e]
      by_cases b0 : i < p + c0
      · rw [a0 i b0]; exact h0.nd i (by omega) (by omega)
      · by_cases b1 : i < p + c0 + c1
        · rw [a1 i b1]; exact h1.nd i (by omega) (by omega)
        · by_cases b2 : i < p + c0 + c1 + c2
          · rw [a2 i b2]; exact h2.nd i (by omega) (by omega)
          · exact h3.nd i (by omega) (by omega)
  · rw [HT.row_trie]
    exact (p0.append (p1.append (p2.append p3))).trans (of_parts lv l)
  · exact Dg.of_row fun y hy => (mem_ofD.1 (p0.mem_iff.1 hy)).2
  · exact Dg.of_row fun y hy => (mem_ofD.1 (p1.mem_iff.1 hy)).2
  · exact Dg.of_row fun y hy => (mem_ofD.1 (p2.mem_iff.1 hy)).2
  · exact Dg.of_row fun y hy => (mem_ofD.1 (p3.mem_iff.1 hy)).2
  · refine got_p (by omega) ?_ (by simp [boxNd]) rfl
    rw [hs q (by omega) (by omega), hgetq, hlen, r0, r1, r2, r3]
  · exact k0 ns'' fun i g1 g2 => by rw [hs i (by omega) (by omega), hget i (by omega), a0 i (by omega)]
  · exact k1 ns'' fun i g1 g2 => by rw [hs i (by omega) (by omega), hget i (by omega), a1 i (by omega)]
  · exact k2 ns'' fun i g1 g2 => by rw [hs i (by omega) (by omega), hget i (by omega), a2 i (by omega)]
  · exact k3 ns'' fun i g1 g2 => by rw [hs i (by omega) (by omega), hget i (by omega)]
  · show c0 + c1 + c2 + c3 + 1 ≤ need lv l
    omega
/-- The first kids, laid one behind the other. -/
def Ch (lv : Nat) (l : Row) (ns : List Nd) (p : Nat) : Nat → List Int → List Nd → Nat → Prop
  | 0, zs, ns', q => zs = [] ∧ ns' = ns ∧ q = p
  | i + 1, zs, ns', q => ∃ (zs0 : List Int) (ns0 : List Nd) (q0 : Nat) (z : Int) (c : Nat), Ch lv l ns p i zs0 ns0 q0 ∧ LaidH ns0 ns' q0 c (lv + 1) (ofD l lv i) z ∧ zs = zs0 ++ [z] ∧ q = q0 + c
theorem Ch.len {lv : Nat} {l : Row} {ns : List Nd} {p : Nat} : ∀ {i : Nat} {zs : List Int} {ns' : List Nd} {q : Nat}, Ch lv l ns p i zs ns' q → zs.length = i ∧ ns'.length = ns.length := by
  intro i
  induction i with
  | zero => rintro zs ns' q ⟨rfl, rfl, rfl⟩; exact ⟨rfl, rfl⟩
  | succ i ih =>
    rintro zs ns' q ⟨zs0, ns0, q0, z, c, h, hl, rfl, rfl⟩
    have := ih h
    exact ⟨by simp [this.1], by rw [hl.len, this.2]⟩
theorem ch_room {lv : Nat} {l : Row} {ns : List Nd} {p : Nat} (hlv : lv < 10) (hl : 2 ≤ l.length) {i : Nat} (hi : i < 4) {zs : List Int} {ns' : List Nd} {q : Nat} (h : Ch lv l ns p i zs ns' q) : q + need (lv + 1) (ofD l lv i) + 1 ≤ p + need lv l := by
  have hne := need4 hlv hl
  rcases (by omega : i = 0 ∨ i = 1 ∨ i = 2 ∨ i = 3) with rfl | rfl | rfl | rfl
  · obtain ⟨_, _, rfl⟩ := h
    show _ + need (lv + 1) (ofD l lv 0) + 1 ≤ _
    omega
  · obtain ⟨_, _, _, _, c0, ⟨_, _, rfl⟩, l0, _, rfl⟩ := h
    have f0 : c0 ≤ need (lv + 1) (ofD l lv 0) := l0.few
    show _ + need (lv + 1) (ofD l lv 1) + 1 ≤ _
    omega
  · obtain ⟨_, _, _, _, c1, ⟨_, _, _, _, c0, ⟨_, _, rfl⟩, l0, _, rfl⟩, l1, _, rfl⟩ := h
    have f0 : c0 ≤ need (lv + 1) (ofD l lv 0) := l0.few
    have f1 : c1 ≤ need (lv + 1) (ofD l lv 1) := l1.few
    show _ + need (lv + 1) (ofD l lv 2) + 1 ≤ _
    omega
  · obtain ⟨_, _, _, _, c2, ⟨_, _, _, _, c1, ⟨_, _, _, _, c0, ⟨_, _, rfl⟩, l0, _, rfl⟩, l1, _, rfl⟩, l2, _, rfl⟩ := h
    have f0 : c0 ≤ need (lv + 1) (ofD l lv 0) := l0.few
    have f1 : c1 ≤ need (lv + 1) (ofD l lv 1) := l1.few
    have f2 : c2 ≤ need (lv + 1) (ofD l lv 2) := l2.few
    show _ + need (lv + 1) (ofD l lv 3) + 1 ≤ _
    omega
theorem ch_trie {lv : Nat} {l : Row} {ns : List Nd} {p : Nat} (hlv : lv < 10) (hl : 2 ≤ l.length) (hl2 : l.length ≤ 1000) (hn : ns.length ≤ 512) {zs : List Int} {ns' : List Nd} {q : Nat} (h : Ch lv l ns p 4 zs ns' q) (hb : p + need lv l ≤ ns.length) :
    q < ns.length ∧ ∃ c, q + 1 = p + c ∧ LaidH ns (ns'.set q (boxNd 2 0 (l.length : Nat) zs)) p c lv l ((q + 1 : Nat) : Int) := by
  have hne := need4 hlv hl
  obtain ⟨_, _, _, _, c3, ⟨_, _, _, _, c2, ⟨_, _, _, _, c1, ⟨_, _, _, _, c0, ⟨rfl, rfl, rfl⟩, l0, rfl, rfl⟩, l1, rfl, rfl⟩, l2, rfl, rfl⟩, l3, rfl, rfl⟩ := h
  have f0 : c0 ≤ need (lv + 1) (ofD l lv 0) := l0.few
  have f1 : c1 ≤ need (lv + 1) (ofD l lv 1) := l1.few
  have f2 : c2 ≤ need (lv + 1) (ofD l lv 2) := l2.few
  have f3 : c3 ≤ need (lv + 1) (ofD l lv 3) := l3.few
  refine ⟨by omega, c0 + c1 + c2 + c3 + 1, by omega, ?_⟩
  exact laidH_trie l0 l1 l2 l3 hl hl2 hlv (by omega) hn
theorem laidH_may {n : Nat} {ns' : List Nd} {l : Row} {z : Int} {cnt : Nat} (h : LaidH (List.replicate n (bare 0)) ns' 0 cnt 0 l z) (h1 : 1 ≤ n) (h2 : n ≤ 512) (hl : cnt ≤ n) : ArMay ns' (downTo n cnt) := by
  have hlen : ns'.length = n := by rw [h.len]; simp
  have hcase : ∀ (i : Nat) (x : Nd), ns'[i]? = some x → (i < cnt ∧ x.Makes ∧ x.g = 0) ∨ (cnt ≤ i ∧ i < n ∧ x = bare 0) := by
    intro i x hx
    have hi : i < n := by have := (List.getElem?_eq_some_iff.1 hx).1; omega
    by_cases e : i < cnt
    · obtain ⟨y, e1, q0, q1, _⟩ := h.nd i (by omega) (by omega)
      rw [hx] at e1
      injection e1 with e1
      subst e1
      exact .inl ⟨e, q0, q1⟩
    · rw [h.out i (by omega)] at hx
      exact .inr ⟨by omega, hi, List.eq_of_mem_replicate (List.mem_of_getElem? hx)⟩
  refine ⟨by omega, by omega, fun x hx => ?_, fun y hy => ?_, ?_, fun i x hx => ?_⟩
  · obtain ⟨i, hi⟩ := List.getElem?_of_mem hx
    rcases hcase i x hi with ⟨_, q0, q1⟩ | ⟨_, _, rfl⟩
    · exact ⟨by rw [q1]; exact ⟨by omega, by omega⟩, .inr ⟨by have := q0.1; omega, q0.2.2⟩⟩
    · exact bare_fits ⟨by omega, by omega⟩
  · simp only [downTo, List.mem_map, List.mem_range] at hy
    obtain ⟨i, hi, rfl⟩ := hy
    rw [hlen]
    exact ⟨by omega, by omega⟩
  · unfold downTo
    rw [List.nodup_iff_pairwise_ne, List.pairwise_map]
    exact List.pairwise_lt_range.imp (fun {a b} hab => by omega)
  · simp only [downTo, List.mem_map, List.mem_range]
    rcases hcase i x hx with ⟨hi, q0, q1⟩ | ⟨hi, hi2, rfl⟩
    · constructor
      · rintro ⟨j, hj, e⟩; omega
      · intro e; have := q0.1; omega
    · exact ⟨fun _ => rfl, fun _ => ⟨n - 1 - i, by omega, by omega⟩⟩
theorem laidH_ok {n : Nat} {ns' : List Nd} {l : Row} {z : Int} {cnt : Nat} (h : LaidH (List.replicate n (bare 0)) ns' 0 cnt 0 l z) : ∀ x ∈ ns', x.Ok := by
  intro x hx
  obtain ⟨i, hi⟩ := List.getElem?_of_mem hx
  by_cases e : i < cnt
  · obtain ⟨y, e1, _, _, q0⟩ := h.nd i (by omega) (by omega)
    rw [hi] at e1
    injection e1 with e1
    rw [e1]
    exact q0
  · rw [h.out i (by omega)] at hi
    rw [List.eq_of_mem_replicate (List.mem_of_getElem? hi)]
    intro r hr
    simp [bare, Nd.kids] at hr
    subst hr
    exact ⟨by omega, by omega⟩

end Go.Proofs.Ytfoifcbaadnigaa
