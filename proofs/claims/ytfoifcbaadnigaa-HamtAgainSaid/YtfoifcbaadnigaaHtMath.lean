/-
  Tables as trees with references: digits, what nodes of an arena have a table, rows of keys, the one shape of a row up to its order.
-/
import Derived.Test.YtfoifcbaadnigaaGG
set_option linter.unusedVariables false
set_option linter.unusedSimpArgs false
namespace Go.Proofs.Ytfoifcbaadnigaa
open Go.RowKit

/-! ### Digits -/
def dig (k : Int) (lv : Nat) : Int := hsI k / (4 : Int) ^ lv % 4
def pas (k : Int) (lv : Nat) : Int := hsI k % (4 : Int) ^ lv
theorem dig_rng (k : Int) (lv : Nat) : 0 ≤ dig k lv ∧ dig k lv < 4 := by unfold dig; omega
theorem pw_pos (lv : Nat) : 0 < (4 : Int) ^ lv := Int.pow_pos (by decide)
theorem pas_rng (k : Int) (lv : Nat) : 0 ≤ pas k lv ∧ pas k lv < (4 : Int) ^ lv := ⟨Int.emod_nonneg _ (by have := pw_pos lv; omega), Int.emod_lt_of_pos _ (pw_pos lv)⟩
theorem pas_zero (k : Int) : pas k 0 = 0 := by simp [pas]
theorem pas_succ (k : Int) (lv : Nat) : pas k (lv + 1) = pas k lv + dig k lv * (4 : Int) ^ lv := by
  obtain ⟨n, hn⟩ := Int.eq_ofNat_of_zero_le (hsI_rng k).1
  unfold pas dig
  rw [hn]
  have h := Nat.mod_mul (x := n) (a := 4 ^ lv) (b := 4)
  rw [Int.pow_succ]
  have e : ((n % (4 ^ lv * 4) : Nat) : Int) = ((n % 4 ^ lv + 4 ^ lv * (n / 4 ^ lv % 4) : Nat) : Int) := by rw [h]
  push_cast at e
  rw [e, Int.mul_comm ((4 : Int) ^ lv)]
theorem pas_all (k : Int) : pas k 10 = hsI k := by
  have := hsI_rng k
  unfold pas
  rw [show (4 : Int) ^ 10 = 1048576 from by decide]
  omega
theorem pas_iff {k : Int} {lv : Nat} {q i : Int} (hq : 0 ≤ q) (hq' : q < (4 : Int) ^ lv) (hi : 0 ≤ i) (hi' : i < 4) : pas k (lv + 1) = q + i * (4 : Int) ^ lv ↔ pas k lv = q ∧ dig k lv = i := by
  rw [pas_succ]
  have h1 := pas_rng k lv
  have h2 := dig_rng k lv
  generalize pas k lv = a at *
  generalize dig k lv = d at *
  generalize (4 : Int) ^ lv = P at *
  have hd : d = 0 ∨ d = 1 ∨ d = 2 ∨ d = 3 := by omega
  have he : i = 0 ∨ i = 1 ∨ i = 2 ∨ i = 3 := by omega
  rcases hd with rfl | rfl | rfl | rfl <;> rcases he with rfl | rfl | rfl | rfl <;> constructor <;> intro h <;> omega

/-! ### Tables -/
structure Lf where
  r : Int
  p : Nat
  k : Int
  v : Int
def Lf.it (x : Lf) : Int × Int := (x.k, x.v)
inductive HT where
  | nil
  | leaf (x : Lf)
  | trie (r : Int) (p : Nat) (a b c d : HT)
  | clash (r : Int) (p : Nat) (ls : List Lf)
def HT.ref : HT → Int
  | .nil => 0
  | .leaf x => x.r
  | .trie r _ _ _ _ _ => r
  | .clash r _ _ => r
def HT.lvs : HT → List Lf
  | .nil => []
  | .leaf x => [x]
  | .trie _ _ a b c d => a.lvs ++ (b.lvs ++ (c.lvs ++ d.lvs))
  | .clash _ _ ls => ls
def HT.row (t : HT) : Row := t.lvs.map Lf.it
def HT.size (t : HT) : Nat := t.lvs.length
/-- The places of its nodes, in the order in which they are met. -/
def HT.pls : HT → List Nat
  | .nil => []
  | .leaf x => [x.p]
  | .trie _ p a b c d => p :: (a.pls ++ (b.pls ++ (c.pls ++ d.pls)))
  | .clash _ p ls => p :: ls.map Lf.p
/-- The kid of a digit. -/
def HT.kid : HT → Nat → HT
  | .trie _ _ a _ _ _, 0 => a
  | .trie _ _ _ b _ _, 1 => b
  | .trie _ _ _ _ c _, 2 => c
  | .trie _ _ _ _ _ d, 3 => d
  | _, _ => .nil
/-- How many nodes it has that are no leaves. -/
def HT.inn : HT → Nat
  | .nil => 0
  | .leaf _ => 0
  | .trie _ _ a b c d => 1 + (a.inn + (b.inn + (c.inn + d.inn)))
  | .clash _ _ _ => 1
theorem HT.row_length (t : HT) : t.row.length = t.size := by simp [HT.row, HT.size]
theorem HT.row_trie (r : Int) (p : Nat) (a b c d : HT) : (HT.trie r p a b c d).row = a.row ++ (b.row ++ (c.row ++ d.row)) := by simp [HT.row, HT.lvs]
theorem HT.size_trie (r : Int) (p : Nat) (a b c d : HT) : (HT.trie r p a b c d).size = a.size + (b.size + (c.size + d.size)) := by simp [HT.size, HT.lvs]

def leafNd (g k v : Int) : Nd := ⟨3, g, k, v, 0, 0, 0, 0, 0, 0, 0, 0, 0, 0, 0, 0⟩
def boxNd (kind g s : Int) (zs : List Int) : Nd := ⟨kind, g, 0, 0, s, ith zs 0, ith zs 1, ith zs 2, ith zs 3, ith zs 4, ith zs 5, ith zs 6, ith zs 7, ith zs 8, 0, 0⟩
theorem boxNd_inj {k g s k' g' s' : Int} {zs zs' : List Int} (h : boxNd k g s zs = boxNd k' g' s' zs') : k = k' ∧ g = g' ∧ s = s' ∧ ∀ i, i < 9 → ith zs i = ith zs' i := by
  simp only [boxNd, Nd.mk.injEq] at h
  obtain ⟨h1, h2, _, _, h3, a0, a1, a2, a3, a4, a5, a6, a7, a8, _⟩ := h
  refine ⟨h1, h2, h3, fun i hi => ?_⟩
  have : i = 0 ∨ i = 1 ∨ i = 2 ∨ i = 3 ∨ i = 4 ∨ i = 5 ∨ i = 6 ∨ i = 7 ∨ i = 8 := by omega
  rcases this with rfl | rfl | rfl | rfl | rfl | rfl | rfl | rfl | rfl <;> assumption
def Lv (ns : List Nd) (x : Lf) : Prop := ∃ g, Got ns x.r x.p (leafNd g x.k x.v)
/-- The table's nodes lie in the arena. -/
def Rp (ns : List Nd) : HT → Prop
  | .nil => True
  | .leaf x => Lv ns x
  | .trie r p a b c d => (∃ g, Got ns r p (boxNd 2 g ((a.size + (b.size + (c.size + d.size)) : Nat) : Int) [a.ref, b.ref, c.ref, d.ref])) ∧ Rp ns a ∧ Rp ns b ∧ Rp ns c ∧ Rp ns d
  | .clash r p ls => (∃ g, Got ns r p (boxNd 4 g (ls.length : Nat) (ls.map Lf.r))) ∧ ∀ x ∈ ls, Lv ns x
def Dg (lv : Nat) (i : Int) (t : HT) : Prop := ∀ x ∈ t.lvs, dig x.k lv = i
/-- The shape of a table at a level. -/
def Sh (lv : Nat) : HT → Prop
  | .nil => True
  | .leaf _ => True
  | .trie _ _ a b c d => lv < 10 ∧ 2 ≤ a.size + (b.size + (c.size + d.size)) ∧ (Dg lv 0 a ∧ Dg lv 1 b ∧ Dg lv 2 c ∧ Dg lv 3 d) ∧ Sh (lv + 1) a ∧ Sh (lv + 1) b ∧ Sh (lv + 1) c ∧ Sh (lv + 1) d
  | .clash _ _ ls => lv = 10 ∧ 2 ≤ ls.length ∧ ls.length ≤ 9 ∧ ls.Pairwise (fun a b => a.k < b.k)

theorem Lv.mono {ns ns' : List Nd} (hk : ∀ r p x, Got ns r p x → Got ns' r p x) {x : Lf} (h : Lv ns x) : Lv ns' x := by
  obtain ⟨g, hg⟩ := h
  exact ⟨g, hk _ _ _ hg⟩
theorem Rp.mono {ns ns' : List Nd} (hk : ∀ r p x, Got ns r p x → Got ns' r p x) : ∀ {t : HT}, Rp ns t → Rp ns' t := by
  intro t
  induction t with
  | nil => intro _; trivial
  | leaf x => exact fun h => Lv.mono hk h
  | trie r p a b c d iha ihb ihc ihd =>
    rintro ⟨⟨g, hg⟩, h1, h2, h3, h4⟩
    exact ⟨⟨g, hk _ _ _ hg⟩, iha h1, ihb h2, ihc h3, ihd h4⟩
  | clash r p ls =>
    rintro ⟨⟨g, hg⟩, h⟩
    exact ⟨⟨g, hk _ _ _ hg⟩, fun x hx => Lv.mono hk (h x hx)⟩
theorem Lv.nz {ns : List Nd} {x : Lf} (h : Lv ns x) : x.r ≠ 0 := by
  obtain ⟨g, hg⟩ := h
  exact got_nz hg
theorem Rp.nz {ns : List Nd} {t : HT} (h : Rp ns t) (hr : t.ref = 0) : t = .nil := by
  cases t with
  | nil => rfl
  | leaf x => exact absurd hr (Lv.nz h)
  | trie r p a b c d => obtain ⟨⟨g, hg⟩, _⟩ := h; exact absurd hr (got_nz hg)
  | clash r p ls => obtain ⟨⟨g, hg⟩, _⟩ := h; exact absurd hr (got_nz hg)
theorem Lv.det {ns : List Nd} {x y : Lf} (h : Lv ns x) (k : Lv ns y) (e : x.r = y.r) : x = y := by
  obtain ⟨g, hg⟩ := h
  obtain ⟨g', hg'⟩ := k
  rw [e] at hg
  obtain ⟨h1, h2⟩ := got_one hg hg'
  simp only [leafNd, Nd.mk.injEq] at h2
  cases x
  cases y
  simp_all
theorem lvs_det {ns : List Nd} : ∀ {ls ms : List Lf}, (∀ x ∈ ls, Lv ns x) → (∀ x ∈ ms, Lv ns x) → ls.length = ms.length → (∀ i, i < ls.length → ith (ls.map Lf.r) i = ith (ms.map Lf.r) i) → ls = ms := by
  intro ls
  induction ls with
  | nil =>
    intro ms _ _ h _
    exact (List.eq_nil_of_length_eq_zero h.symm).symm
  | cons x ls ih =>
    intro ms h1 h2 h3 h4
    cases ms with
    | nil => simp at h3
    | cons y ms =>
      have h0 := h4 0 (by simp)
      simp only [ith, List.map_cons, List.getD_cons_zero] at h0
      rw [(h1 x (by simp)).det (h2 y (by simp)) h0, ih (ms := ms) (fun z hz => h1 z (by simp [hz])) (fun z hz => h2 z (by simp [hz])) (by simpa using h3) (fun i hi => by
        have := h4 (i + 1) (by simpa using hi)
        simpa [ith, List.getD_eq_getElem?_getD] using this)]
theorem ith_map {ls : List Lf} {i : Nat} (hi : ls.length ≤ i) : ith (ls.map Lf.r) i = 0 := by
  simp [ith, List.getD_eq_getElem?_getD, hi]
/-- A reference has one table at most. -/
theorem rp_det {ns : List Nd} {t : HT} : ∀ {u : HT} {lv lv' : Nat}, Rp ns t → Rp ns u → Sh lv t → Sh lv' u → t.ref = u.ref → t = u := by
  induction t with
  | nil =>
    intro u lv lv' _ h _ _ e
    exact (h.nz e.symm).symm
  | leaf x =>
    intro u lv lv' h h' _ _ e
    cases u with
    | nil => exact absurd e (Lv.nz h)
    | leaf y => rw [Lv.det h h' e]
    | trie r p a b c d =>
      obtain ⟨g, hg⟩ := h
      obtain ⟨⟨g', hg'⟩, _⟩ := h'
      simp only [HT.ref] at e
      rw [e] at hg
      have := congrArg Nd.k (got_one hg hg').2
      simp [leafNd, boxNd] at this
    | clash r p ls =>
      obtain ⟨g, hg⟩ := h
      obtain ⟨⟨g', hg'⟩, _⟩ := h'
      simp only [HT.ref] at e
      rw [e] at hg
      have := congrArg Nd.k (got_one hg hg').2
      simp [leafNd, boxNd] at this
  | trie r p a b c d iha ihb ihc ihd =>
    intro u lv lv' h h' s s' e
    obtain ⟨⟨g, hg⟩, h1, h2, h3, h4⟩ := h
    obtain ⟨_, _, _, s1, s2, s3, s4⟩ := s
    cases u with
    | nil => exact absurd e (got_nz hg)
    | leaf y =>
      obtain ⟨g', hg'⟩ := h'
      simp only [HT.ref] at e
      rw [e] at hg
      have := congrArg Nd.k (got_one hg hg').2
      simp [leafNd, boxNd] at this
    | trie r' p' a' b' c' d' =>
      obtain ⟨⟨g', hg'⟩, k1, k2, k3, k4⟩ := h'
      obtain ⟨_, _, _, t1, t2, t3, t4⟩ := s'
      simp only [HT.ref] at e
      subst e
      obtain ⟨e1, e2⟩ := got_one hg hg'
      obtain ⟨_, _, _, e3⟩ := boxNd_inj e2
      have m0 := e3 0 (by omega)
      have m1 := e3 1 (by omega)
      have m2 := e3 2 (by omega)
      have m3 := e3 3 (by omega)
      simp [ith] at m0 m1 m2 m3
      rw [iha h1 k1 s1 t1 m0, ihb h2 k2 s2 t2 m1, ihc h3 k3 s3 t3 m2, ihd h4 k4 s4 t4 m3, e1]
    | clash r' p' ls =>
      obtain ⟨⟨g', hg'⟩, _⟩ := h'
      simp only [HT.ref] at e
      rw [e] at hg
      have := congrArg Nd.k (got_one hg hg').2
      simp [leafNd, boxNd] at this
  | clash r p ls =>
    intro u lv lv' h h' s s' e
    obtain ⟨⟨g, hg⟩, h1⟩ := h
    cases u with
    | nil => exact absurd e (got_nz hg)
    | leaf y =>
      obtain ⟨g', hg'⟩ := h'
      simp only [HT.ref] at e
      rw [e] at hg
      have := congrArg Nd.k (got_one hg hg').2
      simp [leafNd, boxNd] at this
    | trie r' p' a' b' c' d' =>
      obtain ⟨⟨g', hg'⟩, _⟩ := h'
      simp only [HT.ref] at e
      rw [e] at hg
      have := congrArg Nd.k (got_one hg hg').2
      simp [leafNd, boxNd] at this
    | clash r' p' ms =>
      obtain ⟨⟨g', hg'⟩, k1⟩ := h'
      simp only [HT.ref] at e
      subst e
      obtain ⟨e1, e2⟩ := got_one hg hg'
      obtain ⟨_, _, e4, e3⟩ := boxNd_inj e2
      have hl : ls.length ≤ 9 := s.2.2.1
      rw [lvs_det h1 k1 (by omega) (fun i hi => e3 i (by omega)), e1]

/-! ### Rows up to their order -/
/-- Keys are unlike. -/
def Uq (l : Row) : Prop := l.Pairwise (fun a b => a.1 ≠ b.1)
theorem Uq.perm {l m : Row} (h : Uq l) (p : l.Perm m) : Uq m := p.pairwise h (fun e => e.symm)
theorem Srt.uq {l : Row} (h : Srt l) : Uq l := List.Pairwise.imp (fun h => by omega) h
theorem Uq.filter {l : Row} (h : Uq l) (p : Int × Int → Bool) : Uq (l.filter p) := List.Pairwise.filter p h
/-- Those of a digit at a level. -/
def ofD (l : Row) (lv : Nat) (i : Int) : Row := l.filter (fun x => dig x.1 lv == i)
theorem ofD_perm {l m : Row} (h : l.Perm m) (lv : Nat) (i : Int) : (ofD l lv i).Perm (ofD m lv i) := h.filter _
theorem of_parts (lv : Nat) : ∀ l : Row, (ofD l lv 0 ++ (ofD l lv 1 ++ (ofD l lv 2 ++ ofD l lv 3))).Perm l
  | [] => List.Perm.refl _
  | x :: l => by
    have ih := of_parts lv l
    have hd := dig_rng x.1 lv
    have hc : dig x.1 lv = 0 ∨ dig x.1 lv = 1 ∨ dig x.1 lv = 2 ∨ dig x.1 lv = 3 := by omega
    unfold ofD at *
    simp only [List.filter_cons]
    rcases hc with h | h | h | h <;> simp only [h] <;> simp only [beq_self_eq_true, if_true, show ((0 : Int) == 1) = false from rfl, show ((0 : Int) == 2) = false from rfl, show ((0 : Int) == 3) = false from rfl, show ((1 : Int) == 0) = false from rfl, show ((1 : Int) == 2) = false from rfl, show ((1 : Int) == 3) = false from rfl, show ((2 : Int) == 0) = false from rfl, show ((2 : Int) == 1) = false from rfl, show ((2 : Int) == 3) = false from rfl, show ((3 : Int) == 0) = false from rfl, show ((3 : Int) == 1) = false from rfl, show ((3 : Int) == 2) = false from rfl, Bool.false_eq_true, if_false]
    · exact ih.cons _
    · exact List.perm_middle.trans (ih.cons _)
    · rw [← List.append_assoc]
      refine List.perm_middle.trans ?_
      rw [List.append_assoc]
      exact ih.cons _
    · rw [← List.append_assoc, ← List.append_assoc]
      refine List.perm_middle.trans ?_
      rw [List.append_assoc, List.append_assoc]
      exact ih.cons _
theorem of_len (lv : Nat) (l : Row) : (ofD l lv 0).length + ((ofD l lv 1).length + ((ofD l lv 2).length + (ofD l lv 3).length)) = l.length := by
  have := (of_parts lv l).length_eq
  simpa using this
theorem ofD_all {l : Row} {lv : Nat} {i : Int} (h : ∀ x ∈ l, dig x.1 lv = i) : ofD l lv i = l := List.filter_eq_self.2 (fun x hx => by simpa using h x hx)
theorem ofD_none {l : Row} {lv : Nat} {i j : Int} (h : ∀ x ∈ l, dig x.1 lv = j) (hij : i ≠ j) : ofD l lv i = [] := List.filter_eq_nil_iff.2 (fun x hx => by have := h x hx; simp; omega)
theorem ofD_app (a b : Row) (lv : Nat) (i : Int) : ofD (a ++ b) lv i = ofD a lv i ++ ofD b lv i := List.filter_append _ _
theorem Dg.row {lv : Nat} {i : Int} {t : HT} (h : Dg lv i t) : ∀ x ∈ t.row, dig x.1 lv = i := by
  intro x hx
  obtain ⟨y, hy, rfl⟩ := List.mem_map.1 hx
  exact h y hy
theorem Dg.of_row {lv : Nat} {i : Int} {t : HT} (h : ∀ x ∈ t.row, dig x.1 lv = i) : Dg lv i t := fun y hy => h y.it (List.mem_map.2 ⟨y, hy, rfl⟩)

/-- A row in order: the one that a row can be put into. -/
theorem srt_one {a b : Row} (ha : Srt a) (hb : Srt b) (h : a.Perm b) : a = b := srt_ext a b ha hb (fun x => h.mem_iff)

/-- A reference is, at a level, the table of a row. -/
def IsH (ns : List Nd) (lv : Nat) (r : Int) (l : Row) : Prop := ∃ t, Rp ns t ∧ t.ref = r ∧ Sh lv t ∧ t.row.Perm l
theorem IsH.perm {ns : List Nd} {lv : Nat} {r : Int} {l m : Row} (h : IsH ns lv r l) (p : l.Perm m) : IsH ns lv r m := by
  obtain ⟨t, h1, h2, h3, h4⟩ := h
  exact ⟨t, h1, h2, h3, h4.trans p⟩
theorem IsH.mono {ns ns' : List Nd} (hk : ∀ r p x, Got ns r p x → Got ns' r p x) {lv : Nat} {r : Int} {l : Row} (h : IsH ns lv r l) : IsH ns' lv r l := by
  obtain ⟨t, h1, h2, h3, h4⟩ := h
  exact ⟨t, h1.mono hk, h2, h3, h4⟩
theorem Sh.two {lv : Nat} {r : Int} {p : Nat} {a b c d : HT} (h : Sh lv (.trie r p a b c d)) : 2 ≤ (HT.trie r p a b c d).size := by
  rw [HT.size_trie]
  exact h.2.1
theorem isH_nil {ns : List Nd} {lv : Nat} {r : Int} : IsH ns lv r [] ↔ r = 0 := by
  constructor
  · rintro ⟨t, h1, h2, h3, h4⟩
    have h5 := h4.length_eq
    rw [HT.row_length] at h5
    cases t with
    | nil => exact h2.symm
    | leaf x => simp [HT.size, HT.lvs] at h5
    | trie _ p a b c d => have := h3.two; simp at h5; omega
    | clash _ p ls => have := h3.2.1; simp [HT.size, HT.lvs] at h5; simp [h5] at this
  · rintro rfl
    exact ⟨.nil, trivial, rfl, trivial, List.Perm.refl _⟩
theorem isH_one {ns : List Nd} {lv : Nat} {r : Int} {x : Int × Int} : IsH ns lv r [x] ↔ ∃ p g, Got ns r p (leafNd g x.1 x.2) := by
  constructor
  · rintro ⟨t, h1, h2, h3, h4⟩
    have h5 := h4.length_eq
    rw [HT.row_length] at h5
    cases t with
    | nil => simp [HT.size, HT.lvs] at h5
    | leaf y =>
      have h6 := List.perm_singleton.1 h4
      simp [HT.row, HT.lvs, Lf.it] at h6
      obtain ⟨g, hg⟩ := h1
      simp only [HT.ref] at h2
      subst h2
      exact ⟨y.p, g, by rw [← h6]; exact hg⟩
    | trie _ p a b c d => have := h3.two; simp at h5; omega
    | clash _ p ls => have := h3.2.1; simp [HT.size, HT.lvs] at h5; simp [h5] at this
  · rintro ⟨p, g, hg⟩
    exact ⟨.leaf ⟨r, p, x.1, x.2⟩, ⟨g, hg⟩, rfl, trivial, List.Perm.refl _⟩
theorem isH_gone {ns : List Nd} {lv : Nat} {r : Int} {l : Row} (hl : l ≠ []) (hg : Gone ns r) : ¬ IsH ns lv r l := by
  rintro ⟨t, h1, h2, h3, h4⟩
  cases t with
  | nil => exact hl (List.nil_perm.1 h4)
  | leaf y => obtain ⟨g, h⟩ := h1; simp only [HT.ref] at h2; subst h2; exact hg _ _ h
  | trie _ p a b c d => obtain ⟨⟨g, h⟩, _⟩ := h1; simp only [HT.ref] at h2; subst h2; exact hg _ _ h
  | clash _ p ls => obtain ⟨⟨g, h⟩, _⟩ := h1; simp only [HT.ref] at h2; subst h2; exact hg _ _ h
theorem rows_four {lv : Nat} {a b c d : Row} (ha : ∀ x ∈ a, dig x.1 lv = 0) (hb : ∀ x ∈ b, dig x.1 lv = 1) (hc : ∀ x ∈ c, dig x.1 lv = 2) (hd : ∀ x ∈ d, dig x.1 lv = 3) :
    ofD (a ++ (b ++ (c ++ d))) lv 0 = a ∧ ofD (a ++ (b ++ (c ++ d))) lv 1 = b ∧ ofD (a ++ (b ++ (c ++ d))) lv 2 = c ∧ ofD (a ++ (b ++ (c ++ d))) lv 3 = d := by
  simp only [ofD_app]
  refine ⟨?_, ?_, ?_, ?_⟩
  · rw [ofD_all ha, ofD_none hb (by decide), ofD_none hc (by decide), ofD_none hd (by decide)]; simp
  · rw [ofD_none ha (by decide), ofD_all hb, ofD_none hc (by decide), ofD_none hd (by decide)]; simp
  · rw [ofD_none ha (by decide), ofD_none hb (by decide), ofD_all hc, ofD_none hd (by decide)]; simp
  · rw [ofD_none ha (by decide), ofD_none hb (by decide), ofD_none hc (by decide), ofD_all hd]; simp
theorem mem_ofD {l : Row} {lv : Nat} {i : Int} {x : Int × Int} : x ∈ ofD l lv i ↔ x ∈ l ∧ dig x.1 lv = i := by simp [ofD]
theorem isH_trie {ns : List Nd} {lv : Nat} {r : Int} {l : Row} {p : Nat} {x : Nd} (hlv : lv < 10) (hl : 2 ≤ l.length) (hg : Got ns r p x) :
    IsH ns lv r l ↔ x = boxNd 2 x.g (l.length : Nat) [x.r0, x.r1, x.r2, x.r3] ∧ IsH ns (lv + 1) x.r0 (ofD l lv 0) ∧ IsH ns (lv + 1) x.r1 (ofD l lv 1) ∧ IsH ns (lv + 1) x.r2 (ofD l lv 2) ∧ IsH ns (lv + 1) x.r3 (ofD l lv 3) := by
  constructor
  · rintro ⟨t, h1, h2, h3, h4⟩
    have h5 := h4.length_eq
    rw [HT.row_length] at h5
    cases t with
    | nil => simp [HT.size, HT.lvs] at h5; omega
    | leaf y => simp [HT.size, HT.lvs] at h5; omega
    | clash _ q ls => have := h3.1; omega
    | trie r' q a b c d =>
      simp only [HT.ref] at h2
      subst h2
      obtain ⟨⟨g, h⟩, k1, k2, k3, k4⟩ := h1
      obtain ⟨e1, e2⟩ := got_one hg h
      obtain ⟨_, _, ⟨d0, d1, d2, d3⟩, s1, s2, s3, s4⟩ := h3
      rw [HT.size_trie] at h5
      rw [h5] at e2
      obtain ⟨f0, f1, f2, f3⟩ := rows_four d0.row d1.row d2.row d3.row
      rw [HT.row_trie] at h4
      refine ⟨by rw [e2]; simp [boxNd, ith], ⟨a, k1, by rw [e2]; simp [boxNd, ith], s1, ?_⟩, ⟨b, k2, by rw [e2]; simp [boxNd, ith], s2, ?_⟩, ⟨c, k3, by rw [e2]; simp [boxNd, ith], s3, ?_⟩, ⟨d, k4, by rw [e2]; simp [boxNd, ith], s4, ?_⟩⟩
      · have := ofD_perm h4 lv 0; rwa [f0] at this
      · have := ofD_perm h4 lv 1; rwa [f1] at this
      · have := ofD_perm h4 lv 2; rwa [f2] at this
      · have := ofD_perm h4 lv 3; rwa [f3] at this
  · rintro ⟨e, ⟨a, a1, a2, a3, a4⟩, ⟨b, b1, b2, b3, b4⟩, ⟨c, c1, c2, c3, c4⟩, ⟨d, d1, d2, d3, d4⟩⟩
    have hlen : a.size + (b.size + (c.size + d.size)) = l.length := by
      rw [← HT.row_length, ← HT.row_length, ← HT.row_length, ← HT.row_length, a4.length_eq, b4.length_eq, c4.length_eq, d4.length_eq, of_len]
    refine ⟨.trie r p a b c d, ⟨⟨x.g, ?_⟩, a1, b1, c1, d1⟩, rfl, ⟨hlv, by omega, ⟨?_, ?_, ?_, ?_⟩, a3, b3, c3, d3⟩, ?_⟩
    · rw [hlen, a2, b2, c2, d2, ← e]; exact hg
    · exact Dg.of_row fun y hy => (mem_ofD.1 (a4.mem_iff.1 hy)).2
    · exact Dg.of_row fun y hy => (mem_ofD.1 (b4.mem_iff.1 hy)).2
    · exact Dg.of_row fun y hy => (mem_ofD.1 (c4.mem_iff.1 hy)).2
    · exact Dg.of_row fun y hy => (mem_ofD.1 (d4.mem_iff.1 hy)).2
    · rw [HT.row_trie]
      exact (a4.append (b4.append (c4.append d4))).trans (of_parts lv l)
theorem clash_rows {ls : List Lf} : ls.Pairwise (fun a b => a.k < b.k) ↔ Srt (ls.map Lf.it) := by
  unfold Srt
  rw [List.pairwise_map]
  rfl
/-- Leaves at references. -/
def LvAt (ns : List Nd) (r : Int) (x : Int × Int) : Prop := ∃ p g, Got ns r p (leafNd g x.1 x.2)
theorem isH_clash {ns : List Nd} {r : Int} {l s : Row} {p : Nat} {x : Nd} (hl : 2 ≤ l.length) (hg : Got ns r p x) (hs : Srt s) (hp : s.Perm l) :
    IsH ns 10 r l ↔ l.length ≤ 9 ∧ x = boxNd 4 x.g (l.length : Nat) (x.kids.take l.length) ∧ ∀ i y, s[i]? = some y → LvAt ns (ith x.kids i) y := by
  constructor
  · rintro ⟨t, h1, h2, h3, h4⟩
    have h5 := h4.length_eq
    rw [HT.row_length] at h5
    cases t with
    | nil => simp [HT.size, HT.lvs] at h5; omega
    | leaf y => simp [HT.size, HT.lvs] at h5; omega
    | trie r' q a b c d => have := h3.1; omega
    | clash r' q ls =>
      simp only [HT.ref] at h2
      subst h2
      obtain ⟨⟨g, h⟩, k1⟩ := h1
      obtain ⟨e1, e2⟩ := got_one hg h
      obtain ⟨_, s1, s2, s3⟩ := h3
      have e5 : ls.length = l.length := h5
      have e6 : ls.map Lf.it = s := srt_one (clash_rows.1 s3) hs (h4.trans hp.symm)
      have hkids : ∀ i, i < 9 → ith x.kids i = ith (ls.map Lf.r) i := by
        intro i hi
        rw [e2]
        have : i = 0 ∨ i = 1 ∨ i = 2 ∨ i = 3 ∨ i = 4 ∨ i = 5 ∨ i = 6 ∨ i = 7 ∨ i = 8 := by omega
        rcases this with rfl | rfl | rfl | rfl | rfl | rfl | rfl | rfl | rfl <;> rfl
      refine ⟨by omega, ?_, ?_⟩
      · have hz : ∀ i, i < 9 → ith (x.kids.take l.length) i = ith (ls.map Lf.r) i := by
          intro i hi
          by_cases hil : i < l.length
          · rw [← hkids i hi]
            simp [ith, List.getD_eq_getElem?_getD, List.getElem?_take, hil]
          · rw [ith_map (by omega)]
            simp [ith, List.getD_eq_getElem?_getD, List.getElem?_take, hil]
        rw [← e5] at hz ⊢
        conv => lhs; rw [e2]
        simp only [boxNd, hz 0 (by omega), hz 1 (by omega), hz 2 (by omega), hz 3 (by omega), hz 4 (by omega), hz 5 (by omega), hz 6 (by omega), hz 7 (by omega), hz 8 (by omega)]
        rw [e2]; rfl
      · intro i y hy
        rw [← e6, List.getElem?_map] at hy
        cases hm : ls[i]? with
        | none => simp [hm] at hy
        | some z =>
          simp [hm] at hy
          have hi : i < ls.length := (List.getElem?_eq_some_iff.1 hm).1
          rw [hkids i (by omega)]
          obtain ⟨g', hg'⟩ := k1 z (List.mem_of_getElem? hm)
          refine ⟨z.p, g', ?_⟩
          rw [← hy]
          simp only [ith, List.getD_eq_getElem?_getD, List.getElem?_map, hm]
          exact hg'
  · rintro ⟨h9, e, hle⟩
    have hsl := hp.length_eq
    have hall : ∀ n, n ≤ s.length → ∃ ls : List Lf, ls.map Lf.it = s.take n ∧ ls.map Lf.r = x.kids.take n ∧ ∀ y ∈ ls, Lv ns y := by
      intro n
      induction n with
      | zero => intro _; exact ⟨[], rfl, rfl, fun y hy => by cases hy⟩
      | succ n ih =>
        intro hn
        obtain ⟨ls, i1, i2, i3⟩ := ih (by omega)
        obtain ⟨y, hy⟩ : ∃ y, s[n]? = some y := ⟨_, List.getElem?_eq_getElem (by omega)⟩
        obtain ⟨q, g, hq⟩ := hle n y hy
        refine ⟨ls ++ [⟨ith x.kids n, q, y.1, y.2⟩], ?_, ?_, ?_⟩
        · rw [List.map_append, i1, List.take_add_one, hy]; rfl
        · have hk : x.kids[n]? = some (ith x.kids n) := ith_of _ (by simp [Nd.kids]; omega)
          rw [List.map_append, i2, List.take_add_one, hk]; rfl
        · intro z hz
          rcases List.mem_append.1 hz with hz | hz
          · exact i3 z hz
          · rw [List.mem_singleton.1 hz]
            exact ⟨g, hq⟩
    obtain ⟨ls, i1, i2, i3⟩ := hall s.length (Nat.le_refl _)
    rw [List.take_length] at i1
    have hll : ls.length = l.length := by have := congrArg List.length i1; simp at this; omega
    refine ⟨.clash r p ls, ⟨⟨x.g, ?_⟩, i3⟩, rfl, ⟨rfl, by omega, by omega, clash_rows.2 (by rw [i1]; exact hs)⟩, ?_⟩
    · rw [i2, hll, hsl, ← e]; exact hg
    · show (ls.map Lf.it).Perm l
      rw [i1]; exact hp
theorem IsH.det {ns : List Nd} {lv : Nat} {r : Int} {l m : Row} (h : IsH ns lv r l) (k : IsH ns lv r m) : l.Perm m := by
  obtain ⟨t, h1, h2, h3, h4⟩ := h
  obtain ⟨u, k1, k2, k3, k4⟩ := k
  rw [rp_det h1 k1 h3 k3 (h2.trans k2.symm)] at h4
  exact h4.symm.trans k4

end Go.Proofs.Ytfoifcbaadnigaa
