/-
  Texts in one: TrMath TrNode TrFind TrOut TrWith.
-/
import Derived.Test.YthgaogbpkedjcaaGE
import Derived.Test.YthgaogbpkedjcaaGD
import Derived.Test.YthgaogbpkedjcaaGC
import Derived.Test.YthgaogbpkedjcaaGG

/-
  Maps as trees with references: what nodes of an arena have a tree, rows of keys, the one shape of a row.
-/
set_option linter.unusedVariables false
set_option linter.unusedSimpArgs false
namespace Go.Proofs.Ythgaogbpkedjcaa
open Go.RowKit

abbrev Row := List (Int × Int)
inductive T where
  | nil
  | node (ref : Int) (l : T) (k v : Int) (r : T)
def T.ref : T → Int
  | .nil => 0
  | .node r _ _ _ _ => r
def T.size : T → Nat
  | .nil => 0
  | .node _ l _ _ r => l.size + r.size + 1
def T.row : T → Row
  | .nil => []
  | .node _ l k v r => l.row ++ (k, v) :: r.row
theorem T.row_length (t : T) : t.row.length = t.size := by
  induction t with
  | nil => rfl
  | node r l k v t ih1 ih2 => simp [T.row, T.size, ih1, ih2]; omega
theorem T.row_nil {t : T} (h : t.row = []) : t = .nil := by
  cases t with
  | nil => rfl
  | node r l k v t => simp [T.row] at h

/-- A map's node. -/
def trNd (g k v s r0 r1 : Int) : Nd := ⟨1, g, k, v, s, r0, r1, 0, 0, 0, 0, 0, 0, 0, 0, 0⟩
/-- The tree's nodes lie in the arena. -/
def Rep (ns : List Nd) : T → Prop
  | .nil => True
  | .node r l k v t => (∃ p g, Got ns r p (trNd g k v ((l.size + t.size + 1 : Nat) : Int) l.ref t.ref)) ∧ Rep ns l ∧ Rep ns t
/-- Each key comes behind those above it. -/
def Hp : T → Prop
  | .nil => True
  | .node _ l k _ t => (∀ x ∈ l.row, Bef k x.1) ∧ (∀ x ∈ t.row, Bef k x.1) ∧ Hp l ∧ Hp t
/-- A row in order. -/
def Srt (l : Row) : Prop := l.Pairwise (fun a b => a.1 < b.1)

theorem got_nz {ns : List Nd} {r : Int} {p : Nat} {x : Nd} (h : Got ns r p x) : r ≠ 0 := fun e => by
  have := h.node.1
  subst e
  simp at this
theorem got_one {ns : List Nd} {r : Int} {p q : Nat} {x y : Nd} (h : Got ns r p x) (k : Got ns r q y) : p = q ∧ x = y := by
  have h1 := gotF_some.2 h
  rw [gotF_some.2 k] at h1
  injection h1 with h1
  injection h1 with a b
  exact ⟨a.symm, b.symm⟩
theorem trNd_inj {g k v s a b g' k' v' s' a' b' : Int} (h : trNd g k v s a b = trNd g' k' v' s' a' b') : g = g' ∧ k = k' ∧ v = v' ∧ s = s' ∧ a = a' ∧ b = b' := by
  simp only [trNd, Nd.mk.injEq] at h
  exact ⟨h.2.1, h.2.2.1, h.2.2.2.1, h.2.2.2.2.1, h.2.2.2.2.2.1, h.2.2.2.2.2.2.1⟩

theorem Rep.ref_nz {ns : List Nd} {r : Int} {l : T} {k v : Int} {t : T} (h : Rep ns (.node r l k v t)) : r ≠ 0 := by
  obtain ⟨⟨p, g, hg⟩, _⟩ := h
  exact got_nz hg
theorem Rep.nil_iff {ns : List Nd} {t : T} (h : Rep ns t) : t.ref = 0 ↔ t = .nil := by
  cases t with
  | nil => simp [T.ref]
  | node r l k v t => simp [T.ref, h.ref_nz]
theorem rep_det {ns : List Nd} {t : T} : ∀ {u : T}, Rep ns t → Rep ns u → t.ref = u.ref → t = u := by
  induction t with
  | nil =>
    intro u _ h e
    exact (h.nil_iff.1 (by rw [← e]; rfl)).symm
  | node r l k v t ih1 ih2 =>
    intro u h h' e
    cases u with
    | nil => exact absurd e h.ref_nz
    | node r' l' k' v' t' =>
      simp only [T.ref] at e
      subst e
      obtain ⟨⟨p, g, hg⟩, h1, h2⟩ := h
      obtain ⟨⟨p', g', hg'⟩, h1', h2'⟩ := h'
      obtain ⟨_, e1, e2, _, e3, e4⟩ := trNd_inj (got_one hg hg').2
      subst e1 e2
      rw [ih1 h1 h1' e3, ih2 h2 h2' e4]
theorem Rep.mono {ns ns' : List Nd} (hk : ∀ r p x, Got ns r p x → Got ns' r p x) : ∀ {t : T}, Rep ns t → Rep ns' t := by
  intro t
  induction t with
  | nil => intro _; trivial
  | node r l k v t ih1 ih2 =>
    rintro ⟨⟨p, g, hg⟩, h1, h2⟩
    exact ⟨⟨p, g, hk _ _ _ hg⟩, ih1 h1, ih2 h2⟩

theorem Bef.irrefl (a : Int) : ¬ Bef a a := by unfold Bef; omega
theorem Bef.trans {a b c : Int} (h : Bef a b) (k : Bef b c) : Bef a c := by unfold Bef at *; omega
theorem Bef.total {a b : Int} (h : a ≠ b) : Bef a b ∨ Bef b a := by unfold Bef; omega
theorem Bef.asymm {a b : Int} (h : Bef a b) : ¬ Bef b a := fun k => Bef.irrefl a (h.trans k)
theorem bef_iff {a b : Int} : bef a b = true ↔ Bef a b := by simp [bef]
theorem bef_not {a b : Int} : bef a b = false ↔ ¬ Bef a b := by simp [bef]

/-! ### Rows -/
theorem Srt.app {a b : Row} : Srt (a ++ b) ↔ Srt a ∧ Srt b ∧ ∀ x ∈ a, ∀ y ∈ b, x.1 < y.1 := by
  unfold Srt
  exact List.pairwise_append
theorem Srt.mid {a b : Row} {k v : Int} : Srt (a ++ (k, v) :: b) ↔ Srt a ∧ Srt b ∧ (∀ x ∈ a, x.1 < k) ∧ (∀ y ∈ b, k < y.1) ∧ ∀ x ∈ a, ∀ y ∈ b, x.1 < y.1 := by
  rw [Srt.app]
  unfold Srt
  rw [List.pairwise_cons]
  constructor
  · rintro ⟨h1, ⟨h2, h3⟩, h4⟩
    exact ⟨h1, h3, fun x hx => h4 x hx (k, v) (by simp), fun y hy => h2 y hy, fun x hx y hy => h4 x hx y (by simp [hy])⟩
  · rintro ⟨h1, h2, h3, h4, h5⟩
    refine ⟨h1, ⟨fun y hy => h4 y hy, h2⟩, fun x hx y hy => ?_⟩
    rcases List.mem_cons.1 hy with rfl | hy
    · exact h3 x hx
    · exact h5 x hx y hy
theorem Srt.mid' {a b : Row} {k v : Int} (h1 : Srt a) (h2 : Srt b) (h3 : ∀ x ∈ a, x.1 < k) (h4 : ∀ y ∈ b, k < y.1) : Srt (a ++ (k, v) :: b) :=
  Srt.mid.2 ⟨h1, h2, h3, h4, fun x hx y hy => Int.lt_trans (h3 x hx) (h4 y hy)⟩
/-- A key stands once in a row in order. -/
theorem Srt.part {a b c d : Row} {k v u : Int} (h : Srt (a ++ (k, v) :: b)) (e : a ++ (k, v) :: b = c ++ (k, u) :: d) : a = c ∧ v = u ∧ b = d := by
  have h1 := Srt.mid.1 h
  have h2 := Srt.mid.1 (e ▸ h)
  induction a generalizing c with
  | nil =>
    cases c with
    | nil => simp at e; exact ⟨rfl, e.1, e.2⟩
    | cons y c =>
      simp at e
      have := h2.2.2.1 y (by simp)
      rw [← e.1] at this
      simp at this
  | cons x a ih =>
    cases c with
    | nil =>
      simp at e
      have := h1.2.2.1 x (by simp)
      rw [e.1] at this
      simp at this
    | cons y c =>
      simp at e
      obtain ⟨rfl, e⟩ := e
      have h' : Srt (a ++ (k, v) :: b) := by unfold Srt at h ⊢; exact (List.pairwise_cons.1 h).2
      obtain ⟨i1, i2, i3⟩ := ih h' e (Srt.mid.1 h') (Srt.mid.1 (e ▸ h'))
      exact ⟨by rw [i1], i2, i3⟩

def lo (l : Row) (k : Int) : Row := l.filter (fun x => x.1 < k)
def ge (l : Row) (k : Int) : Row := l.filter (fun x => k ≤ x.1)
def hi (l : Row) (k : Int) : Row := l.filter (fun x => k < x.1)
def putR (l : Row) (k v : Int) : Row := lo l k ++ (k, v) :: hi l k
def delR (l : Row) (k : Int) : Row := l.filter (fun x => x.1 ≠ k)
theorem filter_all {l : Row} {p : Int × Int → Bool} (h : ∀ x ∈ l, p x = true) : l.filter p = l := List.filter_eq_self.2 h
theorem filter_none {l : Row} {p : Int × Int → Bool} (h : ∀ x ∈ l, p x = false) : l.filter p = [] := List.filter_eq_nil_iff.2 (fun x hx => by simp [h x hx])
theorem mem_lo {l : Row} {k : Int} {x : Int × Int} : x ∈ lo l k ↔ x ∈ l ∧ x.1 < k := by simp [lo]
theorem mem_ge {l : Row} {k : Int} {x : Int × Int} : x ∈ ge l k ↔ x ∈ l ∧ k ≤ x.1 := by simp [ge]
theorem mem_hi {l : Row} {k : Int} {x : Int × Int} : x ∈ hi l k ↔ x ∈ l ∧ k < x.1 := by simp [hi]
theorem Srt.filter {l : Row} (h : Srt l) (p : Int × Int → Bool) : Srt (l.filter p) := List.Pairwise.filter p h
theorem Srt.putR {l : Row} (h : Srt l) (k v : Int) : Srt (putR l k v) :=
  Srt.mid' (h.filter _) (h.filter _) (fun x hx => (mem_lo.1 hx).2) (fun y hy => (mem_hi.1 hy).2)
theorem mem_putR {l : Row} {k v : Int} {x : Int × Int} (h : x ∈ putR l k v) : x ∈ l ∨ x = (k, v) := by
  unfold putR at h
  rcases List.mem_append.1 h with h | h
  · exact .inl (mem_lo.1 h).1
  · rcases List.mem_cons.1 h with h | h
    · exact .inr h
    · exact .inl (mem_hi.1 h).1
theorem mem_delR {l : Row} {k : Int} {x : Int × Int} (h : x ∈ delR l k) : x ∈ l := (List.mem_filter.1 h).1
theorem lo_ge {l : Row} (h : Srt l) (k : Int) : lo l k ++ ge l k = l := by
  induction l with
  | nil => rfl
  | cons x l ih =>
    have h' := List.pairwise_cons.1 h
    by_cases hx : x.1 < k
    · have e1 : lo (x :: l) k = x :: lo l k := by simp [lo, hx]
      have e2 : ge (x :: l) k = ge l k := List.filter_cons_of_neg (by simp; omega)
      rw [e1, e2, List.cons_append, ih h'.2]
    · have e1 : lo (x :: l) k = [] := filter_none (fun y hy => by
        rcases List.mem_cons.1 hy with rfl | hy
        · simp; omega
        · have := h'.1 y hy; simp; omega)
      have e2 : ge (x :: l) k = x :: l := filter_all (fun y hy => by
        rcases List.mem_cons.1 hy with rfl | hy
        · simp; omega
        · have := h'.1 y hy; simp; omega)
      rw [e1, e2]
      rfl
section
variable {a b : Row} {k v q u : Int}
theorem lo_left (h : Srt (a ++ (k, v) :: b)) (hq : k < q) : lo (a ++ (k, v) :: b) q = a ++ (k, v) :: lo b q := by
  have := Srt.mid.1 h
  unfold lo
  rw [List.filter_append, List.filter_cons_of_pos (by simpa using hq), filter_all (fun x hx => by have := this.2.2.1 x hx; simp; omega)]
theorem ge_left (h : Srt (a ++ (k, v) :: b)) (hq : k < q) : ge (a ++ (k, v) :: b) q = ge b q := by
  have := Srt.mid.1 h
  unfold ge
  rw [List.filter_append, List.filter_cons_of_neg (by simp; omega), filter_none (fun x hx => by have := this.2.2.1 x hx; simp; omega)]
  rfl
theorem lo_right (h : Srt (a ++ (k, v) :: b)) (hq : q ≤ k) : lo (a ++ (k, v) :: b) q = lo a q := by
  have := Srt.mid.1 h
  unfold lo
  rw [List.filter_append, List.filter_cons_of_neg (by simp; omega), filter_none (l := b) (fun x hx => by have := this.2.2.2.1 x hx; simp; omega)]
  simp
theorem ge_right (h : Srt (a ++ (k, v) :: b)) (hq : q ≤ k) : ge (a ++ (k, v) :: b) q = ge a q ++ (k, v) :: b := by
  have := Srt.mid.1 h
  unfold ge
  rw [List.filter_append, List.filter_cons_of_pos (by simpa using hq), filter_all (l := b) (fun x hx => by have := this.2.2.2.1 x hx; simp; omega)]
theorem hi_left (h : Srt (a ++ (k, v) :: b)) (hq : k ≤ q) : hi (a ++ (k, v) :: b) q = hi b q := by
  have := Srt.mid.1 h
  unfold hi
  rw [List.filter_append, List.filter_cons_of_neg (by simp; omega), filter_none (fun x hx => by have := this.2.2.1 x hx; simp; omega)]
  rfl
theorem hi_right (h : Srt (a ++ (k, v) :: b)) (hq : q < k) : hi (a ++ (k, v) :: b) q = hi a q ++ (k, v) :: b := by
  have := Srt.mid.1 h
  unfold hi
  rw [List.filter_append, List.filter_cons_of_pos (by simpa using hq), filter_all (l := b) (fun x hx => by have := this.2.2.2.1 x hx; simp; omega)]
theorem put_left (h : Srt (a ++ (k, v) :: b)) (hq : q < k) : putR (a ++ (k, v) :: b) q u = putR a q u ++ (k, v) :: b := by
  unfold putR
  rw [lo_right h (by omega), hi_right h hq]
  simp
theorem put_right (h : Srt (a ++ (k, v) :: b)) (hq : k < q) : putR (a ++ (k, v) :: b) q u = a ++ (k, v) :: putR b q u := by
  unfold putR
  rw [lo_left h hq, hi_left h (by omega)]
  simp
theorem put_here (h : Srt (a ++ (k, v) :: b)) : putR (a ++ (k, v) :: b) k u = a ++ (k, u) :: b := by
  have hm := Srt.mid.1 h
  unfold putR
  rw [lo_right h (Int.le_refl _), hi_left h (Int.le_refl _)]
  rw [show lo a k = a from filter_all (fun x hx => by have := hm.2.2.1 x hx; simpa using this), show hi b k = b from filter_all (fun x hx => by have := hm.2.2.2.1 x hx; simpa using this)]
theorem del_left (h : Srt (a ++ (k, v) :: b)) (hq : q < k) : delR (a ++ (k, v) :: b) q = delR a q ++ (k, v) :: b := by
  have := Srt.mid.1 h
  unfold delR
  rw [List.filter_append, List.filter_cons_of_pos (by simp; omega), filter_all (l := b) (fun x hx => by have := this.2.2.2.1 x hx; simp; omega)]
theorem del_right (h : Srt (a ++ (k, v) :: b)) (hq : k < q) : delR (a ++ (k, v) :: b) q = a ++ (k, v) :: delR b q := by
  have := Srt.mid.1 h
  unfold delR
  rw [List.filter_append, List.filter_cons_of_pos (by simp; omega), filter_all (l := a) (fun x hx => by have := this.2.2.1 x hx; simp; omega)]
theorem del_here (h : Srt (a ++ (k, v) :: b)) : delR (a ++ (k, v) :: b) k = a ++ b := by
  have := Srt.mid.1 h
  unfold delR
  rw [List.filter_append, List.filter_cons_of_neg (by simp), filter_all (l := a) (fun x hx => by have := this.2.2.1 x hx; simp; omega), filter_all (l := b) (fun x hx => by have := this.2.2.2.1 x hx; simp; omega)]
end
/-- A key stands in a row. -/
def HasK (l : Row) (k : Int) : Prop := ∃ v, (k, v) ∈ l
theorem HasK.mid {a b : Row} {k v q : Int} : HasK (a ++ (k, v) :: b) q ↔ HasK a q ∨ q = k ∨ HasK b q := by
  unfold HasK
  constructor
  · rintro ⟨u, h⟩
    rcases List.mem_append.1 h with h | h
    · exact .inl ⟨u, h⟩
    · rcases List.mem_cons.1 h with h | h
      · injection h with h1 h2
        exact .inr (.inl h1)
      · exact .inr (.inr ⟨u, h⟩)
  · rintro (⟨u, h⟩ | rfl | ⟨u, h⟩)
    · exact ⟨u, List.mem_append.2 (.inl h)⟩
    · exact ⟨v, by simp⟩
    · exact ⟨u, by simp [h]⟩
theorem put_new {l : Row} (h : Srt l) {k v : Int} (hk : ¬ HasK l k) : putR l k v = lo l k ++ (k, v) :: ge l k := by
  unfold putR
  congr 2
  unfold hi ge
  apply List.filter_congr
  intro x hx
  have : x.1 ≠ k := fun e => hk ⟨x.2, by rw [← e]; exact hx⟩
  simp only [decide_eq_decide]
  omega
theorem put_len {l : Row} (h : Srt l) {k v : Int} (hk : ¬ HasK l k) : (putR l k v).length = l.length + 1 := by
  rw [put_new h hk]
  have e := congrArg List.length (lo_ge h k)
  simp only [List.length_append, List.length_cons] at e ⊢
  omega
theorem put_le {l : Row} (h : Srt l) {k v : Int} : (putR l k v).length ≤ l.length + 1 ∧ l.length ≤ (putR l k v).length := by
  by_cases hk : HasK l k
  · obtain ⟨u, hu⟩ := hk
    obtain ⟨a, b, rfl⟩ := List.append_of_mem hu
    rw [put_here h]
    simp
  · rw [put_len h hk]
    omega

/-! ### The one shape of a row -/
/-- A row's map. -/
def IsP (ns : List Nd) (r : Int) (l : Row) : Prop := ∃ t, Rep ns t ∧ t.ref = r ∧ t.row = l ∧ Hp t
theorem isP_nil {ns : List Nd} {r : Int} : IsP ns r [] ↔ r = 0 := by
  constructor
  · rintro ⟨t, h1, h2, h3, h4⟩
    rw [T.row_nil h3] at h2
    exact h2.symm
  · rintro rfl
    exact ⟨.nil, trivial, rfl, rfl, trivial⟩
theorem isP_gone {ns : List Nd} {r : Int} {l : Row} (hl : l ≠ []) (hg : Gone ns r) : ¬ IsP ns r l := by
  rintro ⟨t, h1, h2, h3, h4⟩
  cases t with
  | nil => exact hl h3.symm
  | node q a k v b =>
    simp only [T.ref] at h2
    subst h2
    obtain ⟨⟨p, g, hp⟩, _⟩ := h1
    exact hg _ _ hp
theorem isP_mid {ns : List Nd} {r : Int} {a b : Row} {k v : Int} {p : Nat} {x : Nd} (hs : Srt (a ++ (k, v) :: b)) (ha : ∀ y ∈ a, Bef k y.1) (hb : ∀ y ∈ b, Bef k y.1) (hg : Got ns r p x) :
    IsP ns r (a ++ (k, v) :: b) ↔ x = trNd x.g k v ((a ++ (k, v) :: b).length : Nat) x.r0 x.r1 ∧ IsP ns x.r0 a ∧ IsP ns x.r1 b := by
  constructor
  · rintro ⟨t, h1, h2, h3, h4⟩
    cases t with
    | nil => simp [T.row] at h3
    | node q c k' v' d =>
      simp only [T.ref] at h2
      subst h2
      simp only [T.row] at h3
      obtain ⟨⟨p', g', hg'⟩, hc, hd⟩ := h1
      obtain ⟨_, e⟩ := got_one hg hg'
      have hkk : k' = k := by
        by_cases hne : k' = k
        · exact hne
        · exfalso
          have m1 : (k', v') ∈ a ++ (k, v) :: b := by rw [← h3]; simp
          have m2 : (k, v) ∈ c.row ++ (k', v') :: d.row := by rw [h3]; simp
          have b1 : Bef k k' := by
            rcases List.mem_append.1 m1 with m | m
            · exact ha (k', v') m
            · rcases List.mem_cons.1 m with m | m
              · injection m with m _; exact absurd m hne
              · exact hb (k', v') m
          have b2 : Bef k' k := by
            rcases List.mem_append.1 m2 with m | m
            · exact h4.1 (k, v) m
            · rcases List.mem_cons.1 m with m | m
              · injection m with m _; exact absurd m.symm hne
              · exact h4.2.1 (k, v) m
          exact b1.asymm b2
      subst hkk
      obtain ⟨e1, e2, e3⟩ := hs.part h3.symm
      subst e1 e2 e3
      subst e
      refine ⟨?_, ⟨c, hc, rfl, rfl, h4.2.2.1⟩, ⟨d, hd, rfl, rfl, h4.2.2.2⟩⟩
      simp [trNd, T.row_length]
      omega
  · rintro ⟨e, ⟨c, c1, c2, c3, c4⟩, ⟨d, d1, d2, d3, d4⟩⟩
    refine ⟨.node r c k v d, ⟨⟨p, x.g, ?_⟩, c1, d1⟩, rfl, by simp only [T.row]; rw [c3, d3], by rw [c3]; exact ha, by rw [d3]; exact hb, c4, d4⟩
    rw [c2, d2, ← T.row_length, ← T.row_length, c3, d3]
    have : ((a ++ (k, v) :: b).length : Nat) = a.length + b.length + 1 := by simp; omega
    rw [this] at e
    rw [← e]
    exact hg

/-! ### What is met from a reference -/
def rowF (ns : List Nd) (m : Nat) (r : Int) : Row :=
  match m with
  | 0 => []
  | m + 1 => match gotF ns r with
    | none => []
    | some (_, x) => rowF ns m x.r0 ++ (x.n, x.v) :: rowF ns (m - (rowF ns m x.r0).length) x.r1
termination_by m
decreasing_by all_goals omega
theorem rowF_zero (ns : List Nd) (r : Int) : rowF ns 0 r = [] := by rw [rowF]
theorem rowF_gone {ns : List Nd} {r : Int} (m : Nat) (h : Gone ns r) : rowF ns m r = [] := by
  cases m with
  | zero => rw [rowF]
  | succ m => rw [rowF, gotF_none.2 h]
theorem rowF_got {ns : List Nd} {r : Int} {p : Nat} {x : Nd} (m : Nat) (h : Got ns r p x) : rowF ns (m + 1) r = rowF ns m x.r0 ++ (x.n, x.v) :: rowF ns (m - (rowF ns m x.r0).length) x.r1 := by
  rw [rowF, gotF_some.2 h]
theorem rowF_len (ns : List Nd) : ∀ (m : Nat) (r : Int), (rowF ns m r).length ≤ m := by
  intro m
  induction m using Nat.strongRecOn with
  | _ m ih =>
    intro r
    cases m with
    | zero => rw [rowF_zero]; simp
    | succ m =>
      cases hg : gotF ns r with
      | none => rw [rowF_gone _ (gotF_none.1 hg)]; simp
      | some px =>
        obtain ⟨p, x⟩ := px
        rw [rowF_got m (gotF_some.1 hg)]
        have h1 := ih m (by omega) x.r0
        have h2 := ih (m - (rowF ns m x.r0).length) (by omega) x.r1
        simp only [List.length_append, List.length_cons]
        omega
theorem rowF_rep {ns : List Nd} : ∀ {t : T} {m : Nat}, Rep ns t → t.size ≤ m → rowF ns m t.ref = t.row := by
  intro t
  induction t with
  | nil =>
    intro m _ _
    exact rowF_gone m (fun p x h => got_nz h rfl)
  | node r l k v t ih1 ih2 =>
    rintro m ⟨⟨p, g, hg⟩, h1, h2⟩ hm
    simp only [T.size] at hm
    obtain ⟨m, rfl⟩ : ∃ q, m = q + 1 := ⟨m - 1, by omega⟩
    simp only [T.ref, T.row]
    rw [rowF_got m hg]
    simp only [trNd]
    rw [ih1 h1 (by omega), ih2 h2 (by rw [T.row_length]; omega)]

/-- A reference is a map's. -/
structure Mp (ns : List Nd) (t : T) : Prop where
  rep : Rep ns t
  srt : Srt t.row
  hp : Hp t
  le : t.size ≤ 200
def MapAt (ns : List Nd) (r : Int) : Prop := ∃ t, Mp ns t ∧ t.ref = r
theorem mapAt_iff {ns : List Nd} {r : Int} : MapAt ns r ↔ (rowF ns 201 r).length ≤ 200 ∧ Srt (rowF ns 201 r) ∧ IsP ns r (rowF ns 201 r) := by
  constructor
  · rintro ⟨t, h, rfl⟩
    rw [rowF_rep h.rep (by have := h.le; omega)]
    exact ⟨by rw [T.row_length]; exact h.le, h.srt, t, h.rep, rfl, rfl, h.hp⟩
  · rintro ⟨h1, h2, t, h3, h4, h5, h6⟩
    exact ⟨t, ⟨h3, by rw [h5]; exact h2, h6, by rw [← T.row_length, h5]; exact h1⟩, h4⟩
theorem isP_det {ns : List Nd} {t : T} {l : Row} (h : Rep ns t) (hi : IsP ns t.ref l) : t.row = l := by
  obtain ⟨u, h1, h2, h3, h4⟩ := hi
  rw [rep_det h h1 h2.symm]
  exact h3

end Go.Proofs.Ythgaogbpkedjcaa

/-
  Contracts: a reference's node, a map's size, a node's side (nodeOf, sizeOf, sideOf).
-/
set_option linter.unusedVariables false
set_option linter.unusedSimpArgs false
namespace Go.Proofs.Ythgaogbpkedjcaa
open Go.RowKit

/-- A reference's node; one of nothing, if it has none. -/
def nodeF (ns : List Nd) (r : Int) : Nd := match gotF ns r with | some (_, x) => x | none => bare 0
theorem nodeF_got {ns : List Nd} {r : Int} {p : Nat} {x : Nd} (h : Got ns r p x) : nodeF ns r = x := by unfold nodeF; rw [gotF_some.2 h]
theorem nodeF_gone {ns : List Nd} {r : Int} (h : Gone ns r) : nodeF ns r = bare 0 := by unfold nodeF; rw [gotF_none.2 h]
theorem nodeF_zero (ns : List Nd) : nodeF ns 0 = bare 0 := nodeF_gone (fun p x h => got_nz h rfl)
theorem got_or (ns : List Nd) (r : Int) : (∃ p x, Got ns r p x) ∨ Gone ns r := by
  cases h : gotF ns r with
  | none => exact .inr (gotF_none.1 h)
  | some px => exact .inl ⟨px.1, px.2, gotF_some.1 h⟩
theorem nodeF_ok {ns : List Nd} (hok : ∀ x ∈ ns, x.Ok) (r : Int) : (nodeF ns r).Ok := by
  rcases got_or ns r with ⟨p, x, h⟩ | h
  · rw [nodeF_got h]; exact hok x (List.mem_of_getElem? h.at_)
  · rw [nodeF_gone h]; intro z hz; simp [bare, Nd.kids] at hz; subst hz; omega

/-- One result, a node in a variable. -/
theorem results_nd1 {fn : Func} {p : Tmp} (h : fn.results = #[.cell p 66]) (tmps : Array Value) (w : World) (A : Addr) (x : Nd) (hp : tmps.getD p undef = .pointer (some A)) (hn : NdAt w A x) :
    (results fn tmps).run Try.prog w = .ok (.agg x.arr) w := by
  have hl := run_loadVar_any (P := Try.prog) w A 66 x.arr _ (fun j v hv => hn j v (by rw [← Nd.arr_get]; exact hv)) Try.underlying66 rfl (by kernel_rfl)
  have hp' : tmps[p]?.getD undef = .pointer (some A) := by simpa using hp
  simp [results, h, hp', asAddr, hl]

theorem get_any (A B : Option Addr) (n c m d : Nat) (ns : List Nd) (r : Int) (w : World) (h0 : 0 ≤ r) (h1 : r ≤ 18446744073709551615) (h : Rd w 16 A n (flat Nd.cells ns)) :
    ∃ k : Int, Calls Try.prog 72 #[.agg #[.slice A n c, .slice B m d], .int .u64 r] w fun e w' => e = .returned (.tuple #[.agg (nodeF ns r).arr, .int .i64 k]) ∧ Ext w w' := by
  rcases got_or ns r with ⟨p, x, hg⟩ | hg
  · rw [nodeF_got hg]; exact ⟨0, get_yes A n c m d B ns r p x w h0 h1 h hg⟩
  · rw [nodeF_gone hg]; exact ⟨4, get_no A n c m d B ns r w h0 h1 h hg⟩

set_option maxHeartbeats 1000000 in
theorem nodeOf_is (A B : Option Addr) (n c m d : Nat) (ns : List Nd) (r : Int) (w : World) (h0 : 0 ≤ r) (h1 : r ≤ 18446744073709551615) (h : Rd w 16 A n (flat Nd.cells ns)) :
    Calls Try.prog 56 #[.agg #[.slice A n c, .slice B m d], .int .u64 r] w fun e w' => e = .returned (.agg (nodeF ns r).arr) ∧ Ext w w' := by
  obtain ⟨w1, hw1⟩ : ∃ w1, w1 = w.alloc (.cells #[.slice A n c, .slice B m d] 25) := ⟨_, rfl⟩
  obtain ⟨w2, hw2⟩ : ∃ w2, w2 = w1.alloc (.cells #[.int .i64 0, .int .i64 0, .int .i64 0, .int .i64 0, .int .i64 0, .int .u64 0, .int .u64 0, .int .u64 0, .int .u64 0, .int .u64 0, .int .u64 0, .int .u64 0, .int .u64 0, .int .u64 0, .int .i64 0, .int .i64 0] 66) := ⟨_, rfl⟩
  obtain ⟨B1, hx1, hs1⟩ := box_made hw1
  obtain ⟨B2, hx2, hs2⟩ := box_made hw2
  rw [hs1] at B2
  obtain ⟨k, hget⟩ := get_any A B n c m d ns r w2 h0 h1 (h.to (hx1.step hx2))
  generalize nodeF ns r = x at hget ⊢
  have HG := Lib.hid hget
  have k0 : w2.cell? ⟨w.heap.size, 0, none⟩ = some (.slice A n c) := (B1.to hx2).cell 0
  have k1 : w2.cell? ⟨w.heap.size, 1, none⟩ = some (.slice B m d) := (B1.to hx2).cell 1
  have H1 := Lib.hid hw1
  have H2 := Lib.hid hw2
  have X2 := Lib.hid (hx1.step hx2)
  have HB := Lib.hid B2
  clear hw1 hw2 B1 B2 hx1 hx2 hs1 hs2 h hget
  go_enter Try.func56, Try.ntmps56
  go_wp2_with fail
  rw [← H1.out, ← H2.out]
  go_wp2_with fail
  refine HG.out.mono ?_; rintro e w3 ⟨rfl, hx3⟩
  obtain ⟨w4, hw4⟩ : ∃ w4, w4 = w3.alloc (.cells x.arr 66) := ⟨_, rfl⟩
  obtain ⟨B4, hx4, hs4⟩ := box_made hw4
  have H4 := Lib.hid hw4
  have n4 := B4.node
  have b4 := HB.out.to (hx3.step hx4)
  have X4 := Lib.hid (X2.out.step (hx3.step hx4))
  clear hw4 hs4 hx3 hx4 B4 k0 k1
  go_wp2_with (first
    | (refine wpList_store_nd (W := w3) (by rfl) _ _ (by rfl) (by rfl) x (by rfl) _ (by rfl) (by rfl) ?_; rw [← H4.out])
    | (refine wpList_load_nd (by rfl) _ (by rfl) _ (by rfl) x n4 ?_)
    | (refine wpList_store_box (by rfl) _ _ (by rfl) _ (by rfl) x (by rfl) _ b4 rfl ?_; intro wz hbz hoz))
  refine bodyPost_ret (results_nd1 rfl _ _ ⟨w.heap.size + 1, 0, none⟩ x (by rfl) hbz.node) rfl ⟨rfl, ?_⟩
  exact hoz.new X4.out (by omega)

/-- A number of a node by value. -/
theorem nd_s (x : Nd) (W : World) : (Instr.field 66 (.agg x.arr) 4).run Try.prog W = .ok (.int .i64 x.s) W := by
  simp only [Instr.field, Sem.run_bind, run_underlying Try.underlying66, Result.andThen_ok]
  exact part_i64 (t := 2) Try.underlying2 x 4 _ x.a4
theorem nd_v (x : Nd) (W : World) : (Instr.field 66 (.agg x.arr) 3).run Try.prog W = .ok (.int .i64 x.v) W := by
  simp only [Instr.field, Sem.run_bind, run_underlying Try.underlying66, Result.andThen_ok]
  exact part_i64 (t := 2) Try.underlying2 x 3 _ x.a3
theorem nd_n (x : Nd) (W : World) : (Instr.field 66 (.agg x.arr) 2).run Try.prog W = .ok (.int .i64 x.n) W := by
  simp only [Instr.field, Sem.run_bind, run_underlying Try.underlying66, Result.andThen_ok]
  exact part_i64 (t := 2) Try.underlying2 x 2 _ x.a2

set_option maxHeartbeats 1000000 in
theorem sizeOf_is (A B : Option Addr) (n c m d : Nat) (ns : List Nd) (r : Int) (w : World) (h0 : 0 ≤ r) (h1 : r ≤ 18446744073709551615) (h : Rd w 16 A n (flat Nd.cells ns)) :
    Calls Try.prog 34 #[.agg #[.slice A n c, .slice B m d], .int .u64 r] w fun e w' => e = .returned (.int .i64 (nodeF ns r).s) ∧ Ext w w' := by
  have HN := Lib.hid (nodeOf_is A B n c m d ns r (w.alloc (.cells #[.slice A n c, .slice B m d] 25)) h0 h1 (h.to ((Ext.refl w).new _)))
  generalize nodeF ns r = x at HN ⊢
  have hfs := nd_s x
  clear h
  go_enter Try.func34, Try.ntmps34
  go_wp2_with fail
  refine HN.out.mono ?_; rintro e w3 ⟨rfl, hx3⟩
  go_wp2_with fail
  go_ret
  exact ⟨rfl, ((Ext.refl w).new _).step hx3⟩

theorem sideOf_is (x : Nd) (k : Int) (w : World) :
    Calls Try.prog 57 #[.agg x.arr, .int .i64 k] w fun e w' => e = .returned (.int .i64 (if k < x.n then 0 else 1)) ∧ Ext w w' := by
  have hx1 := Lib.hid ((Ext.refl w).new (.cells x.arr 66))
  have c2 : (w.alloc (.cells x.arr 66)).cell? ⟨w.heap.size, 2, none⟩ = some (.int .i64 x.n) := ((Bx.new w x.arr 66).cell 2).trans x.a2
  obtain ⟨nn, hnn⟩ : ∃ nn, nn = x.n := ⟨_, rfl⟩
  rw [← hnn] at c2 ⊢
  clear hnn
  by_cases h : k < nn
  · have e : (if k < nn then (0 : Int) else 1) = 0 := if_pos h
    rw [e]
    clear e
    go_enter Try.func57, Try.ntmps57
    go_wp2_with fail
    go_ret
    exact ⟨rfl, hx1.out⟩
  · have e : (if k < nn then (0 : Int) else 1) = 1 := if_neg h
    rw [e]
    clear e
    go_enter Try.func57, Try.ntmps57
    go_wp2_with fail
    go_ret
    exact ⟨rfl, hx1.out⟩

end Go.Proofs.Ythgaogbpkedjcaa

/-
  Contracts: a key's node, the outmost key, whether a map is below another one (find, outmost, isBelow).
-/
set_option linter.unusedVariables false
set_option linter.unusedSimpArgs false
namespace Go.Proofs.Ythgaogbpkedjcaa
open Go.RowKit

/-- A number that a reference may have. -/
abbrev U (z : Int) : Prop := 0 ≤ z ∧ z ≤ 18446744073709551615
theorem U.zero : U 0 := ⟨by omega, by omega⟩
theorem Rep.node {ns : List Nd} {r : Int} {l : T} {k v : Int} {u : T} (h : Rep ns (.node r l k v u)) : ∃ g, nodeF ns r = trNd g k v ((l.size + u.size + 1 : Nat) : Int) l.ref u.ref := by
  obtain ⟨⟨p, g, hg⟩, _⟩ := h
  exact ⟨g, nodeF_got hg⟩
theorem Rep.kids {ns : List Nd} (hok : ∀ x ∈ ns, x.Ok) {r : Int} {l : T} {k v : Int} {u : T} (h : Rep ns (.node r l k v u)) : U l.ref ∧ U u.ref := by
  obtain ⟨⟨p, g, hg⟩, _⟩ := h
  have := hok _ (List.mem_of_getElem? hg.at_)
  exact ⟨this l.ref (by simp [trNd, Nd.kids]), this u.ref (by simp [trNd, Nd.kids])⟩
/-- The part of a map from a key on down. -/
def T.sub : T → Int → T
  | .nil, _ => .nil
  | .node r l k v u, q => if k = q then .node r l k v u else if q < k then l.sub q else u.sub q
theorem sub_size (t : T) (q : Int) : (t.sub q).size ≤ t.size := by
  induction t with
  | nil => exact Nat.le_refl _
  | node r l k v u ih1 ih2 =>
    simp only [T.sub]
    split
    · exact Nat.le_refl _
    · split <;> simp only [T.size] <;> omega
theorem sub_rep {ns : List Nd} {t : T} (h : Rep ns t) (q : Int) : Rep ns (t.sub q) := by
  induction t with
  | nil => trivial
  | node r l k v u ih1 ih2 =>
    simp only [T.sub]
    split
    · exact h
    · split
      · exact ih1 h.2.1
      · exact ih2 h.2.2
theorem sub_is {t : T} (hs : Srt t.row) (q : Int) : (t.sub q = .nil ∧ ¬ HasK t.row q) ∨ ∃ r l v u, t.sub q = .node r l q v u ∧ (q, v) ∈ t.row := by
  induction t with
  | nil => exact .inl ⟨rfl, by rintro ⟨v, h⟩; simp [T.row] at h⟩
  | node r l k v u ih1 ih2 =>
    have hm := Srt.mid.1 hs
    simp only [T.sub]
    by_cases h1 : k = q
    · subst h1
      exact .inr ⟨r, l, v, u, by simp, by simp [T.row]⟩
    · rw [if_neg h1]
      by_cases h2 : q < k
      · rw [if_pos h2]
        rcases ih1 hm.1 with ⟨e, hn⟩ | ⟨r', l', v', u', e, hmem⟩
        · refine .inl ⟨e, fun hk => ?_⟩
          rcases HasK.mid.1 hk with hk | hk | ⟨v', hk⟩
          · exact hn hk
          · exact h1 hk.symm
          · have := hm.2.2.2.1 _ hk; simp at this; omega
        · exact .inr ⟨r', l', v', u', e, by simp [T.row, hmem]⟩
      · rw [if_neg h2]
        rcases ih2 hm.2.1 with ⟨e, hn⟩ | ⟨r', l', v', u', e, hmem⟩
        · refine .inl ⟨e, fun hk => ?_⟩
          rcases HasK.mid.1 hk with ⟨v', hk⟩ | hk | hk
          · have := hm.2.2.1 _ hk; simp at this; omega
          · exact h1 hk.symm
          · exact hn hk
        · exact .inr ⟨r', l', v', u', e, by simp [T.row, hmem]⟩
/-- A measure of a reference. -/
def big (ns : List Nd) (v : Value) : Nat := (rowF ns 200 (intOf v)).length
theorem big_rep {ns : List Nd} {t : T} (h : Rep ns t) (hz : t.size ≤ 200) : big ns (.int .u64 t.ref) = t.size := by
  show (rowF ns 200 t.ref).length = _
  rw [rowF_rep h hz, T.row_length]

set_option maxHeartbeats 1000000 in
theorem find_is (A B : Option Addr) (n c m d : Nat) (ns : List Nd) (q : Int) (t : T) (w : World) (hR : Rep ns t) (hz : t.size ≤ 200) (hU : U t.ref) (h : Rd w 16 A n (flat Nd.cells ns)) (hok : ∀ x ∈ ns, x.Ok) :
    Calls Try.prog 35 #[.agg #[.slice A n c, .slice B m d], .int .u64 t.ref, .int .i64 q] w fun e w' => e = .returned (.int .u64 (t.sub q).ref) ∧ Ext w w' := by
  obtain ⟨w1, hw1⟩ : ∃ w1, w1 = w.alloc (.cells #[.slice A n c, .slice B m d] 25) := ⟨_, rfl⟩
  obtain ⟨B1, hx1, hs1⟩ := box_made hw1
  have HB1 := Lib.hid B1
  have H1 := Lib.hid hw1
  have X1 := Lib.hid hx1
  have HA := Lib.hid (h.to hx1)
  have HOK := Lib.hid hok
  clear B1 hs1 hx1 h hw1 hok
  go_enter Try.func35, Try.ntmps35
  go_wp2_with fail
  rw [← H1.out]
  go_loopw [1] (fun v wr => Ext w1 wr ∧ ∃ (u : T) (z : Int), v = .int .u64 z ∧ U z ∧ Hid (u.ref = z) ∧ Hid (Rep ns u) ∧ Hid (u.size ≤ 200) ∧ Hid (u.sub q = t.sub q)) (fun v _ => big ns v)
  case atStart => exact ⟨Ext.refl _, t, _, rfl, hU, Lib.hid rfl, Lib.hid hR, Lib.hid hz, Lib.hid rfl⟩
  case round =>
    obtain ⟨hx, u, z, rfl, hUu, hzr, hRu, hzu, hsub⟩ := hrel
    rename World => w4
    have q0 : w4.cell? ⟨w.heap.size, 0, none⟩ = some (.slice A n c) := (HB1.out.to hx).cell 0
    have q1 : w4.cell? ⟨w.heap.size, 1, none⟩ = some (.slice B m d) := (HB1.out.to hx).cell 1
    cases u with
    | nil =>
      have HE := Lib.hid (show (0 : Int) = (t.sub q).ref by rw [← hsub.out]; rfl)
      obtain rfl : (0 : Int) = z := hzr.out
      clear hsub hRu hzu hzr
      go_wp2_with fail
      go_ret
      exact ⟨by rw [← HE.out]; rfl, X1.out.step hx⟩
    | node r l k v u =>
      obtain rfl : r = z := hzr.out
      clear hzr
      obtain ⟨g, hnode⟩ := hRu.out.node
      have hkids := Lib.hid (hRu.out.kids HOK.out)
      have hr0 : (r != 0) = true := by simp [hRu.out.ref_nz]
      have HN := Lib.hid (nodeOf_is A B n c m d ns r w4 hUu.1 hUu.2 (HA.out.to hx))
      rw [hnode] at HN
      have hsz := Lib.hid (big_rep hRu.out hzu.out)
      have hz' := Lib.hid (show l.size ≤ 200 ∧ u.size ≤ 200 by have := hzu.out; simp only [T.size] at this; omega)
      have hl := Lib.hid (big_rep hRu.out.2.1 hz'.out.1)
      have hu := Lib.hid (big_rep hRu.out.2.2 hz'.out.2)
      rw [show (T.node r l k v u).ref = r from rfl] at hsz
      clear hnode
      go_wp2_with fail
      refine HN.out.mono ?_; rintro e w5 ⟨rfl, hx5⟩
      obtain ⟨w6, hw6⟩ : ∃ w6, w6 = w5.alloc (.cells (trNd g k v ((l.size + u.size + 1 : Nat) : Int) l.ref u.ref).arr 66) := ⟨_, rfl⟩
      obtain ⟨B6, hx6, hs6⟩ := box_made hw6
      have H6 := Lib.hid hw6
      have n6 := B6.node
      have c2 : w6.cell? ⟨w5.heap.size, 2, none⟩ = some (.int .i64 k) := (B6.cell 2).trans rfl
      have c5 : w6.cell? ⟨w5.heap.size, 5, none⟩ = some (.int .u64 l.ref) := (B6.cell 5).trans rfl
      have c6 : w6.cell? ⟨w5.heap.size, 6, none⟩ = some (.int .u64 u.ref) := (B6.cell 6).trans rfl
      have HX := Lib.hid (hx.step (hx5.step hx6))
      have HB6 := Lib.hid B6
      clear hw6 hs6 hx5 hx6 B6 q0 q1 hx
      by_cases e1 : k = q
      · subst e1
        have HE := Lib.hid (show r = (t.sub k).ref by rw [← hsub.out]; simp [T.sub, T.ref])
        clear c5 c6 hsub
        go_wp2_with (first
          | (refine wpList_store_nd (W := w5) (by rfl) _ _ (by rfl) (by rfl) (trNd g k v ((l.size + u.size + 1 : Nat) : Int) l.ref u.ref) (by rfl) _ (by rfl) (by rfl) ?_; rw [← H6.out]))
        go_ret
        exact ⟨by rw [← HE.out]; rfl, X1.out.step HX.out⟩
      · have e1' : (k == q) = false := by simp [e1]
        by_cases e2 : q < k
        · have HS := Lib.hid (show l.sub q = t.sub q by rw [← hsub.out]; simp [T.sub, e1, e2])
          have HC := Lib.hid (fun W => sideOf_is (trNd g k v ((l.size + u.size + 1 : Nat) : Int) l.ref u.ref) q W)
          rw [show (if q < (trNd g k v ((l.size + u.size + 1 : Nat) : Int) l.ref u.ref).n then (0 : Int) else 1) = 0 from if_pos e2] at HC
          clear hsub e1
          go_wp2_with (first
            | (refine wpList_store_nd (W := w5) (by rfl) _ _ (by rfl) (by rfl) (trNd g k v ((l.size + u.size + 1 : Nat) : Int) l.ref u.ref) (by rfl) _ (by rfl) (by rfl) ?_; rw [← H6.out])
            | (refine wpList_load_nd (by rfl) _ (by rfl) _ (by rfl) (trNd g k v ((l.size + u.size + 1 : Nat) : Int) l.ref u.ref) n6 ?_))
          refine (HC.out _).mono ?_; rintro e w7 ⟨rfl, hx7⟩
          have c5 : w7.cell? ⟨w5.heap.size, 5, none⟩ = some (.int .u64 l.ref) := (HB6.out.to hx7).cell 5
          go_wp2_with fail
          go_roundw
          case rel => exact ⟨HX.out.step hx7, l, _, rfl, hkids.out.1, Lib.hid rfl, Lib.hid hRu.out.2.1, Lib.hid hz'.out.1, HS⟩
          case measure => rw [hl.out, hsz.out]; simp only [T.size]; omega
        · have HS := Lib.hid (show u.sub q = t.sub q by rw [← hsub.out]; simp [T.sub, e1, e2])
          have HC := Lib.hid (fun W => sideOf_is (trNd g k v ((l.size + u.size + 1 : Nat) : Int) l.ref u.ref) q W)
          rw [show (if q < (trNd g k v ((l.size + u.size + 1 : Nat) : Int) l.ref u.ref).n then (0 : Int) else 1) = 1 from if_neg e2] at HC
          clear hsub e1
          go_wp2_with (first
            | (refine wpList_store_nd (W := w5) (by rfl) _ _ (by rfl) (by rfl) (trNd g k v ((l.size + u.size + 1 : Nat) : Int) l.ref u.ref) (by rfl) _ (by rfl) (by rfl) ?_; rw [← H6.out])
            | (refine wpList_load_nd (by rfl) _ (by rfl) _ (by rfl) (trNd g k v ((l.size + u.size + 1 : Nat) : Int) l.ref u.ref) n6 ?_))
          refine (HC.out _).mono ?_; rintro e w7 ⟨rfl, hx7⟩
          have c6 : w7.cell? ⟨w5.heap.size, 6, none⟩ = some (.int .u64 u.ref) := (HB6.out.to hx7).cell 6
          go_wp2_with fail
          go_roundw
          case rel => exact ⟨HX.out.step hx7, u, _, rfl, hkids.out.2, Lib.hid rfl, Lib.hid hRu.out.2.2, Lib.hid hz'.out.2, HS⟩
          case measure => rw [hu.out, hsz.out]; simp only [T.size]; omega

end Go.Proofs.Ythgaogbpkedjcaa

/-
  Contracts: the outmost key to a side, whether a map is below another one (outmost, isBelow).
-/
set_option linter.unusedVariables false
set_option linter.unusedSimpArgs false
namespace Go.Proofs.Ythgaogbpkedjcaa
open Go.RowKit

def firstK : Row → Int
  | [] => 0
  | x :: _ => x.1
def lastK (l : Row) : Int := firstK l.reverse
theorem firstK_app {a b : Row} (h : a ≠ []) : firstK (a ++ b) = firstK a := by
  cases a with
  | nil => exact absurd rfl h
  | cons x a => rfl
theorem lastK_app {a b : Row} (h : b ≠ []) : lastK (a ++ b) = lastK b := by
  unfold lastK
  rw [List.reverse_append]
  exact firstK_app (by simpa using h)
theorem lastK_mid {a b : Row} {x : Int × Int} (h : b ≠ []) : lastK (a ++ x :: b) = lastK b := by
  rw [show a ++ x :: b = (a ++ [x]) ++ b by simp]
  exact lastK_app h
theorem lastK_one {a : Row} {x : Int × Int} : lastK (a ++ [x]) = x.1 := by simp [lastK, firstK]
theorem T.row_ne {t : T} (h : t ≠ .nil) : t.row ≠ [] := fun e => h (T.row_nil e)
theorem below_iff {a b : Row} (ha : Srt a) (hb : Srt b) (na : a ≠ []) (nb : b ≠ []) : lastK a < firstK b ↔ ∀ x ∈ a, ∀ y ∈ b, x.1 < y.1 := by
  obtain ⟨y, b, rfl⟩ : ∃ y b', b = y :: b' := by
    cases b with
    | nil => exact absurd rfl nb
    | cons y b => exact ⟨y, b, rfl⟩
  obtain ⟨a, x, rfl⟩ : ∃ a' x, a = a' ++ [x] := ⟨a.dropLast, a.getLast na, (List.dropLast_concat_getLast na).symm⟩
  rw [lastK_one]
  have h1 := Srt.app.1 ha
  have h2 := List.pairwise_cons.1 hb
  constructor
  · intro h p hp q hq
    have e1 : p.1 ≤ x.1 := by
      rcases List.mem_append.1 hp with hp | hp
      · have := h1.2.2 p hp x (by simp); omega
      · simp at hp; rw [hp]; omega
    have e2 : y.1 ≤ q.1 := by
      rcases List.mem_cons.1 hq with hq | hq
      · rw [hq]; omega
      · have := h2.1 q hq; omega
    simp only [firstK] at h
    omega
  · intro h
    exact h x (by simp) y (by simp)
/-- A map's node by its tree. -/
structure Nod (ns : List Nd) (r : Int) (l : T) (k v : Int) (u : T) (x : Nd) : Prop where
  at_ : nodeF ns r = x
  is : x = trNd x.g k v ((l.size + u.size + 1 : Nat) : Int) l.ref u.ref
  n : x.n = k
  v : x.v = v
  s : x.s = ((l.size + u.size + 1 : Nat) : Int)
  r0 : x.r0 = l.ref
  r1 : x.r1 = u.ref
theorem Rep.nod {ns : List Nd} {r : Int} {l : T} {k v : Int} {u : T} (h : Rep ns (.node r l k v u)) : ∃ x, Nod ns r l k v u x := by
  obtain ⟨g, e⟩ := h.node
  exact ⟨_, e, rfl, rfl, rfl, rfl, rfl, rfl⟩
theorem Nd.a5 (x : Nd) : x.arr[5]? = some (.int .u64 x.r0) := by simp [Nd.arr]
theorem Nd.a6 (x : Nd) : x.arr[6]? = some (.int .u64 x.r1) := by simp [Nd.arr]
/-- What a node's variable holds of a size. -/
def szAt (w : World) (b : Nat) : Nat := match w.cell? ⟨b, 4, none⟩ with | some (.int _ s) => s.toNat | _ => 0
theorem szAt_is {w : World} {b : Nat} {x : Nd} (h : Bx w b x.arr) : szAt w b = x.s.toNat := by
  unfold szAt
  rw [h.cell 4, x.a4]

end Go.Proofs.Ythgaogbpkedjcaa

/-
  Contract: the node that a map has of a key, a value and its kids (nodeWith).
-/
set_option linter.unusedVariables false
set_option linter.unusedSimpArgs false
namespace Go.Proofs.Ythgaogbpkedjcaa
open Go.RowKit

def sumI (a b : Int) : Int := wrap64 (wrap64 (1 + a) + b)
theorem sumI_is {a b : Int} (h0 : 0 ≤ a) (h1 : 0 ≤ b) (h2 : a + b ≤ 1000) : sumI a b = a + b + 1 := by
  unfold sumI wrap64
  omega
/-- The node behind some rounds. -/
def rndN (g key v k0 k1 s0 s1 : Int) : Nat → Nd
  | 0 => trNd g key v 1 0 0
  | 1 => trNd g key v (wrap64 (1 + s0)) k0 0
  | _ => trNd g key v (sumI s0 s1) k0 k1

theorem rndN_a4 (g key v k0 k1 s0 s1 : Int) : (rndN g key v k0 k1 s0 s1 0).s = 1 ∧ (rndN g key v k0 k1 s0 s1 1).s = wrap64 (1 + s0) := ⟨rfl, rfl⟩
theorem rnd_set0 (g key v k0 k1 s0 s1 : Int) : ((rndN g key v k0 k1 s0 s1 0).arr.setIfInBounds 5 (.int .u64 k0)).setIfInBounds 4 (.int .i64 (wrap64 (1 + s0))) = (rndN g key v k0 k1 s0 s1 1).arr := rfl
theorem rnd_set1 (g key v k0 k1 s0 s1 : Int) : ((rndN g key v k0 k1 s0 s1 1).arr.setIfInBounds 6 (.int .u64 k1)).setIfInBounds 4 (.int .i64 (wrap64 (wrap64 (1 + s0) + s1))) = (rndN g key v k0 k1 s0 s1 2).arr := rfl

set_option maxHeartbeats 1000000 in
theorem nodeWith_is (A B : Option Addr) (n c m d : Nat) (ns : List Nd) (key v gen k0 k1 : Int) (K : Option Addr) (cK : Nat) (w : World) (h : Rd w 16 A n (flat Nd.cells ns)) (hK : Rd w 1 K 2 (Us [k0, k1])) (hU0 : U k0) (hU1 : U k1) :
    Calls Try.prog 62 #[.agg #[.slice A n c, .slice B m d], .int .i64 key, .int .i64 v, .int .i64 gen, .slice K 2 cK] w fun e w' => e = .returned (.agg (trNd gen key v (sumI (nodeF ns k0).s (nodeF ns k1).s) k0 k1).arr) ∧ Ext w w' := by
  obtain ⟨ak, rfl, hcK⟩ := hK.2 0 (.int .u64 k0) rfl
  obtain ⟨ak', hak, hcK1⟩ := hK.2 1 (.int .u64 k1) rfl
  injection hak with hak
  subst hak
  obtain ⟨w1, hw1⟩ : ∃ w1, w1 = w.alloc (.cells #[.slice A n c, .slice B m d] 25) := ⟨_, rfl⟩
  obtain ⟨w2, hw2⟩ : ∃ w2, w2 = w1.alloc (.cells #[.int .i64 0, .int .i64 0, .int .i64 0, .int .i64 0, .int .i64 0, .int .u64 0, .int .u64 0, .int .u64 0, .int .u64 0, .int .u64 0, .int .u64 0, .int .u64 0, .int .u64 0, .int .u64 0, .int .i64 0, .int .i64 0] 66) := ⟨_, rfl⟩
  obtain ⟨w3, hw3⟩ : ∃ w3, w3 = w2.alloc (.cells #[.int .i64 0, .int .i64 0, .int .i64 0, .int .i64 0, .int .i64 0, .int .u64 0, .int .u64 0, .int .u64 0, .int .u64 0, .int .u64 0, .int .u64 0, .int .u64 0, .int .u64 0, .int .u64 0, .int .i64 0, .int .i64 0] 66) := ⟨_, rfl⟩
  obtain ⟨B1, hx1, hs1⟩ := box_made hw1
  obtain ⟨B2, hx2, hs2⟩ := box_made hw2
  obtain ⟨B3, hx3, hs3⟩ := box_made hw3
  rw [hs1] at B2
  rw [hs2, hs1] at B3
  have HB1 := Lib.hid (B1.to (hx2.step hx3))
  have HB2 := Lib.hid (B2.to hx3)
  have HB3 := Lib.hid B3
  have H1 := Lib.hid hw1
  have H2 := Lib.hid hw2
  have H3 := Lib.hid hw3
  have X3 := Lib.hid ((hx1.step hx2).step hx3)
  have HA := Lib.hid h
  have HK0 := Lib.hid hcK
  have HK1 := Lib.hid hcK1
  obtain ⟨s0, hs0⟩ : ∃ s, s = (nodeF ns k0).s := ⟨_, rfl⟩
  obtain ⟨s1, hs1'⟩ : ∃ s, s = (nodeF ns k1).s := ⟨_, rfl⟩
  have HS0 := Lib.hid (fun W (hW : Ext w W) => sizeOf_is A B n c m d ns k0 W hU0.1 hU0.2 (HA.out.to hW))
  have HS1 := Lib.hid (fun W (hW : Ext w W) => sizeOf_is A B n c m d ns k1 W hU1.1 hU1.2 (HA.out.to hW))
  rw [← hs0] at HS0 ⊢
  rw [← hs1'] at HS1 ⊢
  have hsum := Lib.hid (show wrap64 (wrap64 (1 + s0) + s1) = sumI s0 s1 from rfl)
  clear hw1 hw2 hw3 B1 B2 B3 hx1 hx2 hx3 hs1 hs2 hs3 h hK hcK hcK1 hs0 hs1'
  go_enter Try.func62, Try.ntmps62
  go_wp2_with (first
    | (rw [← H1.out, ← H2.out, ← H3.out]; refine wpList_store_box (by rfl) _ _ (by rfl) _ (by rfl) (trNd gen key v 1 0 0) (by rfl) _ HB3.out rfl ?_; intro w4 hb4 ho4))
  have HB4 := Lib.hid hb4
  have hA4 := Lib.hid (ho4.bx HB1.out (by omega))
  have hR4 := Lib.hid (ho4.bx HB2.out (by omega))
  have X4 := Lib.hid (ho4.new X3.out (by omega))
  clear hb4 ho4
  go_loopw [20, 12, 13] (fun j _ _ wr => Hid (Ext w wr) ∧ Hid (Bx wr w.heap.size #[.slice A n c, .slice B m d]) ∧ Hid (Bx wr (w.heap.size + 1) #[.int .i64 0, .int .i64 0, .int .i64 0, .int .i64 0, .int .i64 0, .int .u64 0, .int .u64 0, .int .u64 0, .int .u64 0, .int .u64 0, .int .u64 0, .int .u64 0, .int .u64 0, .int .u64 0, .int .i64 0, .int .i64 0]) ∧ ∃ k : Nat, k ≤ 2 ∧ j = .int .i64 k ∧ Hid (Bx wr (w.heap.size + 1 + 1) (rndN gen key v k0 k1 s0 s1 k).arr)) (fun j _ _ _ => 2 - (intOf j).toNat)
  case atStart => exact ⟨X4, hA4, hR4, 0, by omega, rfl, HB4⟩
  case round =>
    obtain ⟨hx, hba, hbr, k, hk, rfl, hbn⟩ := hrel
    rename World => w5
    rcases (by omega : k = 0 ∨ k = 1 ∨ k = 2) with rfl | rfl | rfl
    · have c0 : w5.cell? ak = some (.int .u64 k0) := hx.out.cellOf HK0.out
      have f5 := hbn.out.free 5
      have t5 := (hbn.out.cell 5).trans (Nd.a5 _)
      obtain ⟨w6, hw6⟩ : ∃ w6, w6 = w5.setCell ⟨w.heap.size + 1 + 1, 5, none⟩ (.int .u64 k0) := ⟨_, rfl⟩
      have O6 : Only (w.heap.size + 1 + 1) w5 w6 := by rw [hw6]; exact (Only.refl _ _).set _ _
      have B6 : Bx w6 (w.heap.size + 1 + 1) ((rndN gen key v k0 k1 s0 s1 0).arr.setIfInBounds 5 (.int .u64 k0)) := by rw [hw6]; exact hbn.out.set (by rw [Nd.arr_size]; omega) _
      have BA6 := O6.bx hba.out (by omega)
      have BR6 := O6.bx hbr.out (by omega)
      have X6 := O6.new hx.out (by omega)
      have H6 := Lib.hid hw6
      have z0 := fun q : Later w6 => (BA6.to q.ext).cell 0
      have z1 := fun q : Later w6 => (BA6.to q.ext).cell 1
      have z4 : ∀ q : Later w6, q.w.cell? ⟨w.heap.size + 1 + 1, 4, none⟩ = some (.int .i64 1) := fun q => ((B6.to q.ext).cell 4).trans rfl
      simp only [List.getElem?_toArray, List.getElem?_cons_zero, List.getElem?_cons_succ] at z0 z1
      have Z := Lib.hid (And.intro z0 (And.intro z1 z4))
      have HX6 := Lib.hid X6
      have HBB := Lib.hid (And.intro B6 (And.intro BA6 BR6))
      clear hw6 O6 B6 BA6 BR6 X6 z0 z1 z4
      go_wp2_with fail
      rw [← H6.out]
      clear c0 f5 t5
      obtain ⟨z0, z1, z4⟩ := Z.out
      refine wp_region_later_tail 7 w6 (Ext.refl _) (by kernel_rfl) (by kernel_rfl) ?_
      simp only [List.take_succ_cons, List.take_zero, List.drop_succ_cons, List.drop_zero]
      repeat (go_big_quiet_step (first | (go_at_call 34; exact later_call (fun W hW => HS0.out W (HX6.out.step hW)))))
      refine wpQuiet_nil ?_
      rintro _ ⟨q, rfl⟩
      clear z0 z1 z4
      have g4 := (HBB.out.1.to q.ext).free 4
      have g0 : q.w.cell? ⟨w.heap.size + 1 + 1, 4, none⟩ = some (.int .i64 1) := ((HBB.out.1.to q.ext).cell 4).trans rfl
      obtain ⟨w8, hw8⟩ : ∃ w8, w8 = q.w.setCell ⟨w.heap.size + 1 + 1, 4, none⟩ (.int .i64 (wrap64 (1 + s0))) := ⟨_, rfl⟩
      have O8 : Only (w.heap.size + 1 + 1) q.w w8 := by rw [hw8]; exact (Only.refl _ _).set _ _
      have B8 : Bx w8 (w.heap.size + 1 + 1) (rndN gen key v k0 k1 s0 s1 1).arr := by rw [hw8, ← rnd_set0]; exact (HBB.out.1.to q.ext).set (by rw [Array.size_setIfInBounds, Nd.arr_size]; omega) _
      have F8 := Lib.hid (And.intro (O8.new (HX6.out.step q.ext) (by omega)) (And.intro (O8.bx (HBB.out.2.1.to q.ext) (by omega)) (And.intro (O8.bx (HBB.out.2.2.to q.ext) (by omega)) B8)))
      have H8 := Lib.hid hw8
      clear hw8 O8 B8
      go_wp2_with fail
      rw [← H8.out]
      exact ⟨⟨Lib.hid F8.out.1, Lib.hid F8.out.2.1, Lib.hid F8.out.2.2.1, 1, by omega, rfl, Lib.hid F8.out.2.2.2⟩, by simp [intOf]⟩
    · have c0 : w5.cell? { block := ak.block, off := ak.off + 1 } = some (.int .u64 k1) := hx.out.cellOf HK1.out
      have f5 := hbn.out.free 6
      have t5 := (hbn.out.cell 6).trans (Nd.a6 _)
      obtain ⟨w6, hw6⟩ : ∃ w6, w6 = w5.setCell ⟨w.heap.size + 1 + 1, 6, none⟩ (.int .u64 k1) := ⟨_, rfl⟩
      have O6 : Only (w.heap.size + 1 + 1) w5 w6 := by rw [hw6]; exact (Only.refl _ _).set _ _
      have B6 : Bx w6 (w.heap.size + 1 + 1) ((rndN gen key v k0 k1 s0 s1 1).arr.setIfInBounds 6 (.int .u64 k1)) := by rw [hw6]; exact hbn.out.set (by rw [Nd.arr_size]; omega) _
      have BA6 := O6.bx hba.out (by omega)
      have BR6 := O6.bx hbr.out (by omega)
      have X6 := O6.new hx.out (by omega)
      have H6 := Lib.hid hw6
      have z0 := fun q : Later w6 => (BA6.to q.ext).cell 0
      have z1 := fun q : Later w6 => (BA6.to q.ext).cell 1
      have z4 : ∀ q : Later w6, q.w.cell? ⟨w.heap.size + 1 + 1, 4, none⟩ = some (.int .i64 (wrap64 (1 + s0))) := fun q => ((B6.to q.ext).cell 4).trans rfl
      simp only [List.getElem?_toArray, List.getElem?_cons_zero, List.getElem?_cons_succ] at z0 z1
      have Z := Lib.hid (And.intro z0 (And.intro z1 z4))
      have HX6 := Lib.hid X6
      have HBB := Lib.hid (And.intro B6 (And.intro BA6 BR6))
      clear hw6 O6 B6 BA6 BR6 X6 z0 z1 z4
      go_wp2_with fail
      rw [← H6.out]
      clear c0 f5 t5
      obtain ⟨z0, z1, z4⟩ := Z.out
      refine wp_region_later_tail 7 w6 (Ext.refl _) (by kernel_rfl) (by kernel_rfl) ?_
      simp only [List.take_succ_cons, List.take_zero, List.drop_succ_cons, List.drop_zero]
      repeat (go_big_quiet_step (first | (go_at_call 34; exact later_call (fun W hW => HS1.out W (HX6.out.step hW)))))
      refine wpQuiet_nil ?_
      rintro _ ⟨q, rfl⟩
      clear z0 z1 z4
      have g4 := (HBB.out.1.to q.ext).free 4
      have g0 : q.w.cell? ⟨w.heap.size + 1 + 1, 4, none⟩ = some (.int .i64 (wrap64 (1 + s0))) := ((HBB.out.1.to q.ext).cell 4).trans rfl
      obtain ⟨w8, hw8⟩ : ∃ w8, w8 = q.w.setCell ⟨w.heap.size + 1 + 1, 4, none⟩ (.int .i64 (wrap64 (wrap64 (1 + s0) + s1))) := ⟨_, rfl⟩
      have O8 : Only (w.heap.size + 1 + 1) q.w w8 := by rw [hw8]; exact (Only.refl _ _).set _ _
      have B8 : Bx w8 (w.heap.size + 1 + 1) (rndN gen key v k0 k1 s0 s1 2).arr := by rw [hw8, ← rnd_set1]; exact (HBB.out.1.to q.ext).set (by rw [Array.size_setIfInBounds, Nd.arr_size]; omega) _
      have F8 := Lib.hid (And.intro (O8.new (HX6.out.step q.ext) (by omega)) (And.intro (O8.bx (HBB.out.2.1.to q.ext) (by omega)) (And.intro (O8.bx (HBB.out.2.2.to q.ext) (by omega)) B8)))
      have H8 := Lib.hid hw8
      clear hw8 O8 B8
      go_wp2_with fail
      rw [← H8.out]
      exact ⟨⟨Lib.hid F8.out.1, Lib.hid F8.out.2.1, Lib.hid F8.out.2.2.1, 2, by omega, rfl, Lib.hid F8.out.2.2.2⟩, by simp [intOf]⟩
    · have n5 := hbn.out.node
      have HBR := hbr.out
      have HX5 := hx
      clear hx hba hbr hbn
      go_wp2_with (first
        | (refine wpList_load_nd (by rfl) _ (by rfl) _ (by rfl) (trNd gen key v (sumI s0 s1) k0 k1) n5 ?_)
        | (refine wpList_store_box (by rfl) _ _ (by rfl) _ (by rfl) (trNd gen key v (sumI s0 s1) k0 k1) (by rfl) _ HBR rfl ?_; intro wz hbz hoz))
      refine bodyPost_ret (results_nd1 rfl _ _ ⟨w.heap.size + 1, 0, none⟩ (trNd gen key v (sumI s0 s1) k0 k1) (by rfl) hbz.node) rfl ⟨rfl, ?_⟩
      exact hoz.new HX5.out (by omega)

end Go.Proofs.Ythgaogbpkedjcaa
