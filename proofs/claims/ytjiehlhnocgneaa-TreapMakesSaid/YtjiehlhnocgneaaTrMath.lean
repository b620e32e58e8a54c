/-
  Maps as trees with references: what nodes of an arena have a tree, rows of keys, the one shape of a row.
-/
import Derived.Test.YtjiehlhnocgneaaGE
import Derived.Test.YtjiehlhnocgneaaGD
set_option linter.unusedVariables false
set_option linter.unusedSimpArgs false
namespace Go.Proofs.Ytjiehlhnocgneaa
open Go.RowKit

abbrev Row := List (Int × Int)
inductive T where
  | nil
  | node (ref : Int) (l : T) (k v : Int) (r : T)
def T.ref : T → Int
  | .nil => 0
  | .node r _ _ _ _ => r
def T.size : T → Nat
  | .nil => 0
  | .node _ l _ _ r => l.size + r.size + 1
def T.row : T → Row
  | .nil => []
  | .node _ l k v r => l.row ++ (k, v) :: r.row
theorem T.row_length (t : T) : t.row.length = t.size := by
  induction t with
  | nil => rfl
  | node r l k v t ih1 ih2 => simp [T.row, T.size, ih1, ih2]; omega
theorem T.row_nil {t : T} (h : t.row = []) : t = .nil := by
  cases t with
  | nil => rfl
  | node r l k v t => simp [T.row] at h

/-- A map's node. -/
def trNd (g k v s r0 r1 : Int) : Nd := ⟨1, g, k, v, s, r0, r1, 0, 0, 0, 0, 0, 0, 0, 0, 0⟩
/-- The tree's nodes lie in the arena. -/
def Rep (ns : List Nd) : T → Prop
  | .nil => True
  | .node r l k v t => (∃ p g, Got ns r p (trNd g k v ((l.size + t.size + 1 : Nat) : Int) l.ref t.ref)) ∧ Rep ns l ∧ Rep ns t
/-- Each key comes behind those above it. -/
def Hp : T → Prop
  | .nil => True
  | .node _ l k _ t => (∀ x ∈ l.row, Bef k x.1) ∧ (∀ x ∈ t.row, Bef k x.1) ∧ Hp l ∧ Hp t
/-- A row in order. -/
def Srt (l : Row) : Prop := l.Pairwise (fun a b => a.1 < b.1)

theorem got_nz {ns : List Nd} {r : Int} {p : Nat} {x : Nd} (h : Got ns r p x) : r ≠ 0 := fun e => by
  have := h.node.1
  subst e
  simp at this
theorem got_one {ns : List Nd} {r : Int} {p q : Nat} {x y : Nd} (h : Got ns r p x) (k : Got ns r q y) : p = q ∧ x = y := by
  have h1 := gotF_some.2 h
  rw [gotF_some.2 k] at h1
  injection h1 with h1
  injection h1 with a b
  exact ⟨a.symm, b.symm⟩
theorem trNd_inj {g k v s a b g' k' v' s' a' b' : Int} (h : trNd g k v s a b = trNd g' k' v' s' a' b') : g = g' ∧ k = k' ∧ v = v' ∧ s = s' ∧ a = a' ∧ b = b' := by
  simp only [trNd, Nd.mk.injEq] at h
  exact ⟨h.2.1, h.2.2.1, h.2.2.2.1, h.2.2.2.2.1, h.2.2.2.2.2.1, h.2.2.2.2.2.2.1⟩

theorem Rep.ref_nz {ns : List Nd} {r : Int} {l : T} {k v : Int} {t : T} (h : Rep ns (.node r l k v t)) : r ≠ 0 := by
  obtain ⟨⟨p, g, hg⟩, _⟩ := h
  exact got_nz hg
theorem Rep.nil_iff {ns : List Nd} {t : T} (h : Rep ns t) : t.ref = 0 ↔ t = .nil := by
  cases t with
  | nil => simp [T.ref]
  | node r l k v t => simp [T.ref, h.ref_nz]
theorem rep_det {ns : List Nd} {t : T} : ∀ {u : T}, Rep ns t → Rep ns u → t.ref = u.ref → t = u := by
  induction t with
  | nil =>
    intro u _ h e
    exact (h.nil_iff.1 (by rw [← e]; rfl)).symm
  | node r l k v t ih1 ih2 =>
    intro u h h' e
    cases u with
    | nil => exact absurd e h.ref_nz
    | node r' l' k' v' t' =>
      simp only [T.ref] at e
      subst e
      obtain ⟨⟨p, g, hg⟩, h1, h2⟩ := h
      obtain ⟨⟨p', g', hg'⟩, h1', h2'⟩ := h'
      obtain ⟨_, e1, e2, _, e3, e4⟩ := trNd_inj (got_one hg hg').2
      subst e1 e2
      rw [ih1 h1 h1' e3, ih2 h2 h2' e4]
theorem Rep.mono {ns ns' : List Nd} (hk : ∀ r p x, Got ns r p x → Got ns' r p x) : ∀ {t : T}, Rep ns t → Rep ns' t := by
  intro t
  induction t with
  | nil => intro _; trivial
  | node r l k v t ih1 ih2 =>
    rintro ⟨⟨p, g, hg⟩, h1, h2⟩
    exact ⟨⟨p, g, hk _ _ _ hg⟩, ih1 h1, ih2 h2⟩

theorem Bef.irrefl (a : Int) : ¬ Bef a a := by unfold Bef; omega
theorem Bef.trans {a b c : Int} (h : Bef a b) (k : Bef b c) : Bef a c := by unfold Bef at *; omega
theorem Bef.total {a b : Int} (h : a ≠ b) : Bef a b ∨ Bef b a := by unfold Bef; omega
theorem Bef.asymm {a b : Int} (h : Bef a b) : ¬ Bef b a := fun k => Bef.irrefl a (h.trans k)
theorem bef_iff {a b : Int} : bef a b = true ↔ Bef a b := by simp [bef]
theorem bef_not {a b : Int} : bef a b = false ↔ ¬ Bef a b := by simp [bef]

/-! ### Rows -/
theorem Srt.app {a b : Row} : Srt (a ++ b) ↔ Srt a ∧ Srt b ∧ ∀ x ∈ a, ∀ y ∈ b, x.1 < y.1 := by
  unfold Srt
  exact List.pairwise_append
theorem Srt.mid {a b : Row} {k v : Int} : Srt (a ++ (k, v) :: b) ↔ Srt a ∧ Srt b ∧ (∀ x ∈ a, x.1 < k) ∧ (∀ y ∈ b, k < y.1) ∧ ∀ x ∈ a, ∀ y ∈ b, x.1 < y.1 := by
  rw [Srt.app]
  unfold Srt
  rw [List.pairwise_cons]
  constructor
  · rintro ⟨h1, ⟨h2, h3⟩, h4⟩
    exact ⟨h1, h3, fun x hx => h4 x hx (k, v) (by simp), fun y hy => h2 y hy, fun x hx y hy => h4 x hx y (by simp [hy])⟩
  · rintro ⟨h1, h2, h3, h4, h5⟩
    refine ⟨h1, ⟨fun y hy => h4 y hy, h2⟩, fun x hx y hy => ?_⟩
    rcases List.mem_cons.1 hy with rfl | hy
    · exact h3 x hx
    · exact h5 x hx y hy
theorem Srt.mid' {a b : Row} {k v : Int} (h1 : Srt a) (h2 : Srt b) (h3 : ∀ x ∈ a, x.1 < k) (h4 : ∀ y ∈ b, k < y.1) : Srt (a ++ (k, v) :: b) :=
  Srt.mid.2 ⟨h1, h2, h3, h4, fun x hx y hy => Int.lt_trans (h3 x hx) (h4 y hy)⟩
/-- A key stands once in a row in order. -/
theorem Srt.part {a b c d : Row} {k v u : Int} (h : Srt (a ++ (k, v) :: b)) (e : a ++ (k, v) :: b = c ++ (k, u) :: d) : a = c ∧ v = u ∧ b = d := by
  have h1 := Srt.mid.1 h
  have h2 := Srt.mid.1 (e ▸ h)
  induction a generalizing c with
  | nil =>
    cases c with
    | nil => simp at e; exact ⟨rfl, e.1, e.2⟩
    | cons y c =>
      simp at e
      have := h2.2.2.1 y (by simp)
      rw [← e.1] at this
      simp at this
  | cons x a ih =>
    cases c with
    | nil =>
      simp at e
      have := h1.2.2.1 x (by simp)
      rw [e.1] at this
      simp at this
    | cons y c =>
      simp at e
      obtain ⟨rfl, e⟩ := e
      have h' : Srt (a ++ (k, v) :: b) := by unfold Srt at h ⊢; exact (List.pairwise_cons.1 h).2
      obtain ⟨i1, i2, i3⟩ := ih h' e (Srt.mid.1 h') (Srt.mid.1 (e ▸ h'))
      exact ⟨by rw [i1], i2, i3⟩

def lo (l : Row) (k : Int) : Row := l.filter (fun x => x.1 < k)
def ge (l : Row) (k : Int) : Row := l.filter (fun x => k ≤ x.1)
def hi (l : Row) (k : Int) : Row := l.filter (fun x => k < x.1)
def putR (l : Row) (k v : Int) : Row := lo l k ++ (k, v) :: hi l k
def delR (l : Row) (k : Int) : Row := l.filter (fun x => x.1 ≠ k)
theorem filter_all {l : Row} {p : Int × Int → Bool} (h : ∀ x ∈ l, p x = true) : l.filter p = l := List.filter_eq_self.2 h
theorem filter_none {l : Row} {p : Int × Int → Bool} (h : ∀ x ∈ l, p x = false) : l.filter p = [] := List.filter_eq_nil_iff.2 (fun x hx => by simp [h x hx])
theorem mem_lo {l : Row} {k : Int} {x : Int × Int} : x ∈ lo l k ↔ x ∈ l ∧ x.1 < k := by simp [lo]
theorem mem_ge {l : Row} {k : Int} {x : Int × Int} : x ∈ ge l k ↔ x ∈ l ∧ k ≤ x.1 := by simp [ge]
theorem mem_hi {l : Row} {k : Int} {x : Int × Int} : x ∈ hi l k ↔ x ∈ l ∧ k < x.1 := by simp [hi]
theorem Srt.filter {l : Row} (h : Srt l) (p : Int × Int → Bool) : Srt (l.filter p) := List.Pairwise.filter p h
theorem Srt.putR {l : Row} (h : Srt l) (k v : Int) : Srt (putR l k v) :=
  Srt.mid' (h.filter _) (h.filter _) (fun x hx => (mem_lo.1 hx).2) (fun y hy => (mem_hi.1 hy).2)
theorem mem_putR {l : Row} {k v : Int} {x : Int × Int} (h : x ∈ putR l k v) : x ∈ l ∨ x = (k, v) := by
  unfold putR at h
  rcases List.mem_append.1 h with h | h
  · exact .inl (mem_lo.1 h).1
  · rcases List.mem_cons.1 h with h | h
    · exact .inr h
    · exact .inl (mem_hi.1 h).1
theorem mem_delR {l : Row} {k : Int} {x : Int × Int} (h : x ∈ delR l k) : x ∈ l := (List.mem_filter.1 h).1
theorem lo_ge {l : Row} (h : Srt l) (k : Int) : lo l k ++ ge l k = l := by
  induction l with
  | nil => rfl
  | cons x l ih =>
    have h' := List.pairwise_cons.1 h
    by_cases hx : x.1 < k
    · have e1 : lo (x :: l) k = x :: lo l k := by simp [lo, hx]
      have e2 : ge (x :: l) k = ge l k := List.filter_cons_of_neg (by simp; omega)
      rw [e1, e2, List.cons_append, ih h'.2]
    · have e1 : lo (x :: l) k = [] := filter_none (fun y hy => by
        rcases List.mem_cons.1 hy with rfl | hy
        · simp; omega
        · have := h'.1 y hy; simp; omega)
      have e2 : ge (x :: l) k = x :: l := filter_all (fun y hy => by
        rcases List.mem_cons.1 hy with rfl | hy
        · simp; omega
        · have := h'.1 y hy; simp; omega)
      rw [e1, e2]
      rfl
section
variable {a b : Row} {k v q u : Int}
theorem lo_left (h : Srt (a ++ (k, v) :: b)) (hq : k < q) : lo (a ++ (k, v) :: b) q = a ++ (k, v) :: lo b q := by
  have := Srt.mid.1 h
  unfold lo
  rw [List.filter_append, List.filter_cons_of_pos (by simpa using hq), filter_all (fun x hx => by have := this.2.2.1 x hx; simp; omega)]
theorem ge_left (h : Srt (a ++ (k, v) :: b)) (hq : k < q) : ge (a ++ (k, v) :: b) q = ge b q := by
  have := Srt.mid.1 h
  unfold ge
  rw [List.filter_append, List.filter_cons_of_neg (by simp; omega), filter_none (fun x hx => by have := this.2.2.1 x hx; simp; omega)]
  rfl
theorem lo_right (h : Srt (a ++ (k, v) :: b)) (hq : q ≤ k) : lo (a ++ (k, v) :: b) q = lo a q := by
  have := Srt.mid.1 h
  unfold lo
  rw [List.filter_append, List.filter_cons_of_neg (by simp; omega), filter_none (l := b) (fun x hx => by have := this.2.2.2.1 x hx; simp; omega)]
  simp
theorem ge_right (h : Srt (a ++ (k, v) :: b)) (hq : q ≤ k) : ge (a ++ (k, v) :: b) q = ge a q ++ (k, v) :: b := by
  have := Srt.mid.1 h
  unfold ge
  rw [List.filter_append, List.filter_cons_of_pos (by simpa using hq), filter_all (l := b) (fun x hx => by have := this.2.2.2.1 x hx; simp; omega)]
theorem hi_left (h : Srt (a ++ (k, v) :: b)) (hq : k ≤ q) : hi (a ++ (k, v) :: b) q = hi b q := by
  have := Srt.mid.1 h
  unfold hi
  rw [List.filter_append, List.filter_cons_of_neg (by simp; omega), filter_none (fun x hx => by have := this.2.2.1 x hx; simp; omega)]
  rfl
theorem hi_right (h : Srt (a ++ (k, v) :: b)) (hq : q < k) : hi (a ++ (k, v) :: b) q = hi a q ++ (k, v) :: b := by
  have := Srt.mid.1 h
  unfold hi
  rw [List.filter_append, List.filter_cons_of_pos (by simpa using hq), filter_all (l := b) (fun x hx => by have := this.2.2.2.1 x hx; simp; omega)]
theorem put_left (h : Srt (a ++ (k, v) :: b)) (hq : q < k) : putR (a ++ (k, v) :: b) q u = putR a q u ++ (k, v) :: b := by
  unfold putR
  rw [lo_right h (by omega), hi_right h hq]
  simp
theorem put_right (h : Srt (a ++ (k, v) :: b)) (hq : k < q) : putR (a ++ (k, v) :: b) q u = a ++ (k, v) :: putR b q u := by
  unfold putR
  rw [lo_left h hq, hi_left h (by omega)]
  simp
theorem put_here (h : Srt (a ++ (k, v) :: b)) : putR (a ++ (k, v) :: b) k u = a ++ (k, u) :: b := by
  have hm := Srt.mid.1 h
  unfold putR
  rw [lo_right h (Int.le_refl _), hi_left h (Int.le_refl _)]
  rw [show lo a k = a from filter_all (fun x hx => by have := hm.2.2.1 x hx; simpa using this), show hi b k = b from filter_all (fun x hx => by have := hm.2.2.2.1 x hx; simpa using this)]
theorem del_left (h : Srt (a ++ (k, v) :: b)) (hq : q < k) : delR (a ++ (k, v) :: b) q = delR a q ++ (k, v) :: b := by
  have := Srt.mid.1 h
  unfold delR
  rw [List.filter_append, List.filter_cons_of_pos (by simp; omega), filter_all (l := b) (fun x hx => by have := this.2.2.2.1 x hx; simp; omega)]
theorem del_right (h : Srt (a ++ (k, v) :: b)) (hq : k < q) : delR (a ++ (k, v) :: b) q = a ++ (k, v) :: delR b q := by
  have := Srt.mid.1 h
  unfold delR
  rw [List.filter_append, List.filter_cons_of_pos (by simp; omega), filter_all (l := a) (fun x hx => by have := this.2.2.1 x hx; simp; omega)]
theorem del_here (h : Srt (a ++ (k, v) :: b)) : delR (a ++ (k, v) :: b) k = a ++ b := by
  have := Srt.mid.1 h
  unfold delR
  rw [List.filter_append, List.filter_cons_of_neg (by simp), filter_all (l := a) (fun x hx => by have := this.2.2.1 x hx; simp; omega), filter_all (l := b) (fun x hx => by have := this.2.2.2.1 x hx; simp; omega)]
end
/-- A key stands in a row. -/
def HasK (l : Row) (k : Int) : Prop := ∃ v, (k, v) ∈ l
theorem HasK.mid {a b : Row} {k v q : Int} : HasK (a ++ (k, v) :: b) q ↔ HasK a q ∨ q = k ∨ HasK b q := by
  unfold HasK
  constructor
  · rintro ⟨u, h⟩
    rcases List.mem_append.1 h with h | h
    · exact .inl ⟨u, h⟩
    · rcases List.mem_cons.1 h with h | h
      · injection h with h1 h2
        exact .inr (.inl h1)
      · exact .inr (.inr ⟨u, h⟩)
  · rintro (⟨u, h⟩ | rfl | ⟨u, h⟩)
    · exact ⟨u, List.mem_append.2 (.inl h)⟩
    · exact ⟨v, by simp⟩
    · exact ⟨u, by simp [h]⟩
theorem put_new {l : Row} (h : Srt l) {k v : Int} (hk : ¬ HasK l k) : putR l k v = lo l k ++ (k, v) :: ge l k := by
  unfold putR
  congr 2
  unfold hi ge
  apply List.filter_congr
  intro x hx
  have : x.1 ≠ k := fun e => hk ⟨x.2, by rw [← e]; exact hx⟩
  simp only [decide_eq_decide]
  omega
theorem put_len {l : Row} (h : Srt l) {k v : Int} (hk : ¬ HasK l k) : (putR l k v).length = l.length + 1 := by
  rw [put_new h hk]
  have e := congrArg List.length (lo_ge h k)
  simp only [List.length_append, List.length_cons] at e ⊢
  omega
theorem put_le {l : Row} (h : Srt l) {k v : Int} : (putR l k v).length ≤ l.length + 1 ∧ l.length ≤ (putR l k v).length := by
  by_cases hk : HasK l k
  · obtain ⟨u, hu⟩ := hk
    obtain ⟨a, b, rfl⟩ := List.append_of_mem hu
    rw [put_here h]
    simp
  · rw [put_len h hk]
    omega

/-! ### The one shape of a row -/
/-- A row's map. -/
def IsP (ns : List Nd) (r : Int) (l : Row) : Prop := ∃ t, Rep ns t ∧ t.ref = r ∧ t.row = l ∧ Hp t
theorem isP_nil {ns : List Nd} {r : Int} : IsP ns r [] ↔ r = 0 := by
  constructor
  · rintro ⟨t, h1, h2, h3, h4⟩
    rw [T.row_nil h3] at h2
    exact h2.symm
  · rintro rfl
    exact ⟨.nil, trivial, rfl, rfl, trivial⟩
theorem isP_gone {ns : List Nd} {r : Int} {l : Row} (hl : l ≠ []) (hg : Gone ns r) : ¬ IsP ns r l := by
  rintro ⟨t, h1, h2, h3, h4⟩
  cases t with
  | nil => exact hl h3.symm
  | node q a k v b =>
    simp only [T.ref] at h2
    subst h2
    obtain ⟨⟨p, g, hp⟩, _⟩ := h1
    exact hg _ _ hp
theorem isP_mid {ns : List Nd} {r : Int} {a b : Row} {k v : Int} {p : Nat} {x : Nd} (hs : Srt (a ++ (k, v) :: b)) (ha : ∀ y ∈ a, Bef k y.1) (hb : ∀ y ∈ b, Bef k y.1) (hg : Got ns r p x) :
    IsP ns r (a ++ (k, v) :: b) ↔ x = trNd x.g k v ((a ++ (k, v) :: b).length : Nat) x.r0 x.r1 ∧ IsP ns x.r0 a ∧ IsP ns x.r1 b := by
  constructor
  · rintro ⟨t, h1, h2, h3, h4⟩
    cases t with
    | nil => simp [T.row] at h3
    | node q c k' v' d =>
      simp only [T.ref] at h2
      subst h2
      simp only [T.row] at h3
      obtain ⟨⟨p', g', hg'⟩, hc, hd⟩ := h1
      obtain ⟨_, e⟩ := got_one hg hg'
      have hkk : k' = k := by
        by_cases hne : k' = k
        · exact hne
        · exfalso
          have m1 : (k', v') ∈ a ++ (k, v) :: b := by rw [← h3]; simp
          have m2 : (k, v) ∈ c.row ++ (k', v') :: d.row := by rw [h3]; simp
          have b1 : Bef k k' := by
            rcases List.mem_append.1 m1 with m | m
            · exact ha (k', v') m
            · rcases List.mem_cons.1 m with m | m
              · injection m with m _; exact absurd m hne
              · exact hb (k', v') m
          have b2 : Bef k' k := by
            rcases List.mem_append.1 m2 with m | m
            · exact h4.1 (k, v) m
            · rcases List.mem_cons.1 m with m | m
              · injection m with m _; exact absurd m.symm hne
              · exact h4.2.1 (k, v) m
          exact b1.asymm b2
      subst hkk
      obtain ⟨e1, e2, e3⟩ := hs.part h3.symm
      subst e1 e2 e3
      subst e
      refine ⟨?_, ⟨c, hc, rfl, rfl, h4.2.2.1⟩, ⟨d, hd, rfl, rfl, h4.2.2.2⟩⟩
      simp [trNd, T.row_length]
      omega
  · rintro ⟨e, ⟨c, c1, c2, c3, c4⟩, ⟨d, d1, d2, d3, d4⟩⟩
    refine ⟨.node r c k v d, ⟨⟨p, x.g, ?_⟩, c1, d1⟩, rfl, by simp only [T.row]; rw [c3, d3], by rw [c3]; exact ha, by rw [d3]; exact hb, c4, d4⟩
    rw [c2, d2, ← T.row_length, ← T.row_length, c3, d3]
    have : ((a ++ (k, v) :: b).length : Nat) = a.length + b.length + 1 := by simp; omega
    rw [this] at e
    rw [← e]
    exact hg

/-! ### What is met from a reference -/
def rowF (ns : List Nd) (m : Nat) (r : Int) : Row :=
  match m with
  | 0 => []
  | m + 1 => match gotF ns r with
    | none => []
    | some (_, x) => rowF ns m x.r0 ++ (x.n, x.v) :: rowF ns (m - (rowF ns m x.r0).length) x.r1
termination_by m
decreasing_by all_goals omega
theorem rowF_zero (ns : List Nd) (r : Int) : rowF ns 0 r = [] := by rw [rowF]
theorem rowF_gone {ns : List Nd} {r : Int} (m : Nat) (h : Gone ns r) : rowF ns m r = [] := by
  cases m with
  | zero => rw [rowF]
  | succ m => rw [rowF, gotF_none.2 h]
theorem rowF_got {ns : List Nd} {r : Int} {p : Nat} {x : Nd} (m : Nat) (h : Got ns r p x) : rowF ns (m + 1) r = rowF ns m x.r0 ++ (x.n, x.v) :: rowF ns (m - (rowF ns m x.r0).length) x.r1 := by
  rw [rowF, gotF_some.2 h]
theorem rowF_len (ns : List Nd) : ∀ (m : Nat) (r : Int), (rowF ns m r).length ≤ m := by
  intro m
  induction m using Nat.strongRecOn with
  | _ m ih =>
    intro r
    cases m with
    | zero => rw [rowF_zero]; simp
    | succ m =>
      cases hg : gotF ns r with
      | none => rw [rowF_gone _ (gotF_none.1 hg)]; simp
      | some px =>
        obtain ⟨p, x⟩ := px
        rw [rowF_got m (gotF_some.1 hg)]
        have h1 := ih m (by omega) x.r0
        have h2 := ih (m - (rowF ns m x.r0).length) (by omega) x.r1
        simp only [List.length_append, List.length_cons]
        omega
theorem rowF_rep {ns : List Nd} : ∀ {t : T} {m : Nat}, Rep ns t → t.size ≤ m → rowF ns m t.ref = t.row := by
  intro t
  induction t with
  | nil =>
    intro m _ _
    exact rowF_gone m (fun p x h => got_nz h rfl)
  | node r l k v t ih1 ih2 =>
    rintro m ⟨⟨p, g, hg⟩, h1, h2⟩ hm
    simp only [T.size] at hm
    obtain ⟨m, rfl⟩ : ∃ q, m = q + 1 := ⟨m - 1, by omega⟩
    simp only [T.ref, T.row]
    rw [rowF_got m hg]
    simp only [trNd]
    rw [ih1 h1 (by omega), ih2 h2 (by rw [T.row_length]; omega)]

/-- A reference is a map's. -/
structure Mp (ns : List Nd) (t : T) : Prop where
  rep : Rep ns t
  srt : Srt t.row
  hp : Hp t
  le : t.size ≤ 200
def MapAt (ns : List Nd) (r : Int) : Prop := ∃ t, Mp ns t ∧ t.ref = r
theorem mapAt_iff {ns : List Nd} {r : Int} : MapAt ns r ↔ (rowF ns 201 r).length ≤ 200 ∧ Srt (rowF ns 201 r) ∧ IsP ns r (rowF ns 201 r) := by
  constructor
  · rintro ⟨t, h, rfl⟩
    rw [rowF_rep h.rep (by have := h.le; omega)]
    exact ⟨by rw [T.row_length]; exact h.le, h.srt, t, h.rep, rfl, rfl, h.hp⟩
  · rintro ⟨h1, h2, t, h3, h4, h5, h6⟩
    exact ⟨t, ⟨h3, by rw [h5]; exact h2, h6, by rw [← T.row_length, h5]; exact h1⟩, h4⟩
theorem isP_det {ns : List Nd} {t : T} {l : Row} (h : Rep ns t) (hi : IsP ns t.ref l) : t.row = l := by
  obtain ⟨u, h1, h2, h3, h4⟩ := hi
  rw [rep_det h h1 h2.symm]
  exact h3

end Go.Proofs.Ytjiehlhnocgneaa
