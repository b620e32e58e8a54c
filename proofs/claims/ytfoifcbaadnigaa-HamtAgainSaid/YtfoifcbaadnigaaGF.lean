/-
  Texts in one: TrMath TrNode TrFind QTail TrOut TrWith TrTop TrMeetM Stores TrMeet TrRight TwoHeld TrMaker TrMade TrKid TrSplit TrPutC TrCopyP TrPut TrErr TrJoin TrDelC TrCopyD TrDel TrSpl TrJoi TrGet TrAlive LayMath.
-/
import Derived.Test.YtfoifcbaadnigaaGE
import Derived.Test.YtfoifcbaadnigaaGD
import Derived.Test.YtfoifcbaadnigaaGC
import Derived.Test.YtfoifcbaadnigaaGB
import Derived.StillTail
import Derived.Laws.IdiomCopy
import Derived.Laws.EntriesVeiled
import Derived.OrdersHeld

/-
  Maps as trees with references: what nodes of an arena have a tree, rows of keys, the one shape of a row.
-/
set_option linter.unusedVariables false
set_option linter.unusedSimpArgs false
namespace Go.Proofs.Ytfoifcbaadnigaa
open Go.RowKit

abbrev Row := List (Int × Int)
inductive T where
  | nil
  | node (ref : Int) (l : T) (k v : Int) (r : T)
def T.ref : T → Int
  | .nil => 0
  | .node r _ _ _ _ => r
def T.size : T → Nat
  | .nil => 0
  | .node _ l _ _ r => l.size + r.size + 1
def T.row : T → Row
  | .nil => []
  | .node _ l k v r => l.row ++ (k, v) :: r.row
theorem T.row_length (t : T) : t.row.length = t.size := by
  induction t with
  | nil => rfl
  | node r l k v t ih1 ih2 => simp [T.row, T.size, ih1, ih2]; omega
theorem T.row_nil {t : T} (h : t.row = []) : t = .nil := by
  cases t with
  | nil => rfl
  | node r l k v t => simp [T.row] at h

/-- A map's node. -/
def trNd (g k v s r0 r1 : Int) : Nd := ⟨1, g, k, v, s, r0, r1, 0, 0, 0, 0, 0, 0, 0, 0, 0⟩
/-- The tree's nodes lie in the arena. -/
def Rep (ns : List Nd) : T → Prop
  | .nil => True
  | .node r l k v t => (∃ p g, Got ns r p (trNd g k v ((l.size + t.size + 1 : Nat) : Int) l.ref t.ref)) ∧ Rep ns l ∧ Rep ns t
/-- Each key comes behind those above it. -/
def Hp : T → Prop
  | .nil => True
  | .node _ l k _ t => (∀ x ∈ l.row, Bef k x.1) ∧ (∀ x ∈ t.row, Bef k x.1) ∧ Hp l ∧ Hp t
/-- A row in order. -/
def Srt (l : Row) : Prop := l.Pairwise (fun a b => a.1 < b.1)

theorem got_nz {ns : List Nd} {r : Int} {p : Nat} {x : Nd} (h : Got ns r p x) : r ≠ 0 := fun e => by
  have := h.node.1
  subst e
  simp at this
theorem got_one {ns : List Nd} {r : Int} {p q : Nat} {x y : Nd} (h : Got ns r p x) (k : Got ns r q y) : p = q ∧ x = y := by
  have h1 := gotF_some.2 h
  rw [gotF_some.2 k] at h1
  injection h1 with h1
  injection h1 with a b
  exact ⟨a.symm, b.symm⟩
theorem trNd_inj {g k v s a b g' k' v' s' a' b' : Int} (h : trNd g k v s a b = trNd g' k' v' s' a' b') : g = g' ∧ k = k' ∧ v = v' ∧ s = s' ∧ a = a' ∧ b = b' := by
  simp only [trNd, Nd.mk.injEq] at h
  exact ⟨h.2.1, h.2.2.1, h.2.2.2.1, h.2.2.2.2.1, h.2.2.2.2.2.1, h.2.2.2.2.2.2.1⟩

theorem Rep.ref_nz {ns : List Nd} {r : Int} {l : T} {k v : Int} {t : T} (h : Rep ns (.node r l k v t)) : r ≠ 0 := by
  obtain ⟨⟨p, g, hg⟩, _⟩ := h
  exact got_nz hg
theorem Rep.nil_iff {ns : List Nd} {t : T} (h : Rep ns t) : t.ref = 0 ↔ t = .nil := by
  cases t with
  | nil => simp [T.ref]
  | node r l k v t => simp [T.ref, h.ref_nz]
theorem rep_det {ns : List Nd} {t : T} : ∀ {u : T}, Rep ns t → Rep ns u → t.ref = u.ref → t = u := by
  induction t with
  | nil =>
    intro u _ h e
    exact (h.nil_iff.1 (by rw [← e]; rfl)).symm
  | node r l k v t ih1 ih2 =>
    intro u h h' e
    cases u with
    | nil => exact absurd e h.ref_nz
    | node r' l' k' v' t' =>
      simp only [T.ref] at e
      subst e
      obtain ⟨⟨p, g, hg⟩, h1, h2⟩ := h
      obtain ⟨⟨p', g', hg'⟩, h1', h2'⟩ := h'
      obtain ⟨_, e1, e2, _, e3, e4⟩ := trNd_inj (got_one hg hg').2
      subst e1 e2
      rw [ih1 h1 h1' e3, ih2 h2 h2' e4]
theorem Rep.mono {ns ns' : List Nd} (hk : ∀ r p x, Got ns r p x → Got ns' r p x) : ∀ {t : T}, Rep ns t → Rep ns' t := by
  intro t
  induction t with
  | nil => intro _; trivial
  | node r l k v t ih1 ih2 =>
    rintro ⟨⟨p, g, hg⟩, h1, h2⟩
    exact ⟨⟨p, g, hk _ _ _ hg⟩, ih1 h1, ih2 h2⟩

theorem Bef.irrefl (a : Int) : ¬ Bef a a := by unfold Bef; omega
theorem Bef.trans {a b c : Int} (h : Bef a b) (k : Bef b c) : Bef a c := by unfold Bef at *; omega
theorem Bef.total {a b : Int} (h : a ≠ b) : Bef a b ∨ Bef b a := by unfold Bef; omega
theorem Bef.asymm {a b : Int} (h : Bef a b) : ¬ Bef b a := fun k => Bef.irrefl a (h.trans k)
theorem bef_iff {a b : Int} : bef a b = true ↔ Bef a b := by simp [bef]
theorem bef_not {a b : Int} : bef a b = false ↔ ¬ Bef a b := by simp [bef]

/-! ### Rows -/
theorem Srt.app {a b : Row} : Srt (a ++ b) ↔ Srt a ∧ Srt b ∧ ∀ x ∈ a, ∀ y ∈ b, x.1 < y.1 := by
  unfold Srt
  exact List.pairwise_append
theorem Srt.mid {a b : Row} {k v : Int} : Srt (a ++ (k, v) :: b) ↔ Srt a ∧ Srt b ∧ (∀ x ∈ a, x.1 < k) ∧ (∀ y ∈ b, k < y.1) ∧ ∀ x ∈ a, ∀ y ∈ b, x.1 < y.1 := by
  rw [Srt.app]
  unfold Srt
  rw [List.pairwise_cons]
  constructor
  · rintro ⟨h1, ⟨h2, h3⟩, h4⟩
    exact ⟨h1, h3, fun x hx => h4 x hx (k, v) (by simp), fun y hy => h2 y hy, fun x hx y hy => h4 x hx y (by simp [hy])⟩
  · rintro ⟨h1, h2, h3, h4, h5⟩
    refine ⟨h1, ⟨fun y hy => h4 y hy, h2⟩, fun x hx y hy => ?_⟩
    rcases List.mem_cons.1 hy with rfl | hy
    · exact h3 x hx
    · exact h5 x hx y hy
theorem Srt.mid' {a b : Row} {k v : Int} (h1 : Srt a) (h2 : Srt b) (h3 : ∀ x ∈ a, x.1 < k) (h4 : ∀ y ∈ b, k < y.1) : Srt (a ++ (k, v) :: b) :=
  Srt.mid.2 ⟨h1, h2, h3, h4, fun x hx y hy => Int.lt_trans (h3 x hx) (h4 y hy)⟩
/-- A key stands once in a row in order. -/
theorem Srt.part {a b c d : Row} {k v u : Int} (h : Srt (a ++ (k, v) :: b)) (e : a ++ (k, v) :: b = c ++ (k, u) :: d) : a = c ∧ v = u ∧ b = d := by
  have h1 := Srt.mid.1 h
  have h2 := Srt.mid.1 (e ▸ h)
  induction a generalizing c with
  | nil =>
    cases c with
    | nil => simp at e; exact ⟨rfl, e.1, e.2⟩
    | cons y c =>
      simp at e
      have := h2.2.2.1 y (by simp)
      rw [← e.1] at this
      simp at this
  | cons x a ih =>
    cases c with
    | nil =>
      simp at e
      have := h1.2.2.1 x (by simp)
      rw [e.1] at this
      simp at this
    | cons y c =>
      simp at e
      obtain ⟨rfl, e⟩ := e
      have h' : Srt (a ++ (k, v) :: b) := by unfold Srt at h ⊢; exact (List.pairwise_cons.1 h).2
      obtain ⟨i1, i2, i3⟩ := ih h' e (Srt.mid.1 h') (Srt.mid.1 (e ▸ h'))
      exact ⟨by rw [i1], i2, i3⟩

def lo (l : Row) (k : Int) : Row := l.filter (fun x => x.1 < k)
def ge (l : Row) (k : Int) : Row := l.filter (fun x => k ≤ x.1)
def hi (l : Row) (k : Int) : Row := l.filter (fun x => k < x.1)
def putR (l : Row) (k v : Int) : Row := lo l k ++ (k, v) :: hi l k
def delR (l : Row) (k : Int) : Row := l.filter (fun x => x.1 ≠ k)
theorem filter_all {l : Row} {p : Int × Int → Bool} (h : ∀ x ∈ l, p x = true) : l.filter p = l := List.filter_eq_self.2 h
theorem filter_none {l : Row} {p : Int × Int → Bool} (h : ∀ x ∈ l, p x = false) : l.filter p = [] := List.filter_eq_nil_iff.2 (fun x hx => by simp [h x hx])
theorem mem_lo {l : Row} {k : Int} {x : Int × Int} : x ∈ lo l k ↔ x ∈ l ∧ x.1 < k := by simp [lo]
theorem mem_ge {l : Row} {k : Int} {x : Int × Int} : x ∈ ge l k ↔ x ∈ l ∧ k ≤ x.1 := by simp [ge]
theorem mem_hi {l : Row} {k : Int} {x : Int × Int} : x ∈ hi l k ↔ x ∈ l ∧ k < x.1 := by simp [hi]
theorem Srt.filter {l : Row} (h : Srt l) (p : Int × Int → Bool) : Srt (l.filter p) := List.Pairwise.filter p h
theorem Srt.putR {l : Row} (h : Srt l) (k v : Int) : Srt (putR l k v) :=
  Srt.mid' (h.filter _) (h.filter _) (fun x hx => (mem_lo.1 hx).2) (fun y hy => (mem_hi.1 hy).2)
theorem mem_putR {l : Row} {k v : Int} {x : Int × Int} (h : x ∈ putR l k v) : x ∈ l ∨ x = (k, v) := by
  unfold putR at h
  rcases List.mem_append.1 h with h | h
  · exact .inl (mem_lo.1 h).1
  · rcases List.mem_cons.1 h with h | h
    · exact .inr h
    · exact .inl (mem_hi.1 h).1
theorem mem_delR {l : Row} {k : Int} {x : Int × Int} (h : x ∈ delR l k) : x ∈ l := (List.mem_filter.1 h).1
theorem lo_ge {l : Row} (h : Srt l) (k : Int) : lo l k ++ ge l k = l := by
  induction l with
  | nil => rfl
  | cons x l ih =>
    have h' := List.pairwise_cons.1 h
    by_cases hx : x.1 < k
    · have e1 : lo (x :: l) k = x :: lo l k := by simp [lo, hx]
      have e2 : ge (x :: l) k = ge l k := List.filter_cons_of_neg (by simp; omega)
      rw [e1, e2, List.cons_append, ih h'.2]
    · have e1 : lo (x :: l) k = [] := filter_none (fun y hy => by
        rcases List.mem_cons.1 hy with rfl | hy
        · simp; omega
        · have := h'.1 y hy; simp; omega)
      have e2 : ge (x :: l) k = x :: l := filter_all (fun y hy => by
        rcases List.mem_cons.1 hy with rfl | hy
        · simp; omega
        · have := h'.1 y hy; simp; omega)
      rw [e1, e2]
      rfl
section
variable {a b : Row} {k v q u : Int}
theorem lo_left (h : Srt (a ++ (k, v) :: b)) (hq : k < q) : lo (a ++ (k, v) :: b) q = a ++ (k, v) :: lo b q := by
  have := Srt.mid.1 h
  unfold lo
  rw [List.filter_append, List.filter_cons_of_pos (by simpa using hq), filter_all (fun x hx => by have := this.2.2.1 x hx; simp; omega)]
theorem ge_left (h : Srt (a ++ (k, v) :: b)) (hq : k < q) : ge (a ++ (k, v) :: b) q = ge b q := by
  have := Srt.mid.1 h
  unfold ge
  rw [List.filter_append, List.filter_cons_of_neg (by simp; omega), filter_none (fun x hx => by have := this.2.2.1 x hx; simp; omega)]
  rfl
theorem lo_right (h : Srt (a ++ (k, v) :: b)) (hq : q ≤ k) : lo (a ++ (k, v) :: b) q = lo a q := by
  have := Srt.mid.1 h
  unfold lo
  rw [List.filter_append, List.filter_cons_of_neg (by simp; omega), filter_none (l := b) (fun x hx => by have := this.2.2.2.1 x hx; simp; omega)]
  simp
theorem ge_right (h : Srt (a ++ (k, v) :: b)) (hq : q ≤ k) : ge (a ++ (k, v) :: b) q = ge a q ++ (k, v) :: b := by
  have := Srt.mid.1 h
  unfold ge
  rw [List.filter_append, List.filter_cons_of_pos (by simpa using hq), filter_all (l := b) (fun x hx => by have := this.2.2.2.1 x hx; simp; omega)]
theorem hi_left (h : Srt (a ++ (k, v) :: b)) (hq : k ≤ q) : hi (a ++ (k, v) :: b) q = hi b q := by
  have := Srt.mid.1 h
  unfold hi
  rw [List.filter_append, List.filter_cons_of_neg (by simp; omega), filter_none (fun x hx => by have := this.2.2.1 x hx; simp; omega)]
  rfl
theorem hi_right (h : Srt (a ++ (k, v) :: b)) (hq : q < k) : hi (a ++ (k, v) :: b) q = hi a q ++ (k, v) :: b := by
  have := Srt.mid.1 h
  unfold hi
  rw [List.filter_append, List.filter_cons_of_pos (by simpa using hq), filter_all (l := b) (fun x hx => by have := this.2.2.2.1 x hx; simp; omega)]
theorem put_left (h : Srt (a ++ (k, v) :: b)) (hq : q < k) : putR (a ++ (k, v) :: b) q u = putR a q u ++ (k, v) :: b := by
  unfold putR
  rw [lo_right h (by omega), hi_right h hq]
  simp
theorem put_right (h : Srt (a ++ (k, v) :: b)) (hq : k < q) : putR (a ++ (k, v) :: b) q u = a ++ (k, v) :: putR b q u := by
  unfold putR
  rw [lo_left h hq, hi_left h (by omega)]
  simp
theorem put_here (h : Srt (a ++ (k, v) :: b)) : putR (a ++ (k, v) :: b) k u = a ++ (k, u) :: b := by
  have hm := Srt.mid.1 h
  unfold putR
  rw [lo_right h (Int.le_refl _), hi_left h (Int.le_refl _)]
  rw [show lo a k = a from filter_all (fun x hx => by have := hm.2.2.1 x hx; simpa using this), show hi b k = b from filter_all (fun x hx => by have := hm.2.2.2.1 x hx; simpa using this)]
theorem del_left (h : Srt (a ++ (k, v) :: b)) (hq : q < k) : delR (a ++ (k, v) :: b) q = delR a q ++ (k, v) :: b := by
  have := Srt.mid.1 h
  unfold delR
  rw [List.filter_append, List.filter_cons_of_pos (by simp; omega), filter_all (l := b) (fun x hx => by have := this.2.2.2.1 x hx; simp; omega)]
theorem del_right (h : Srt (a ++ (k, v) :: b)) (hq : k < q) : delR (a ++ (k, v) :: b) q = a ++ (k, v) :: delR b q := by
  have := Srt.mid.1 h
  unfold delR
  rw [List.filter_append, List.filter_cons_of_pos (by simp; omega), filter_all (l := a) (fun x hx => by have := this.2.2.1 x hx; simp; omega)]
theorem del_here (h : Srt (a ++ (k, v) :: b)) : delR (a ++ (k, v) :: b) k = a ++ b := by
  have := Srt.mid.1 h
  unfold delR
  rw [List.filter_append, List.filter_cons_of_neg (by simp), filter_all (l := a) (fun x hx => by have := this.2.2.1 x hx; simp; omega), filter_all (l := b) (fun x hx => by have := this.2.2.2.1 x hx; simp; omega)]
end
/-- A key stands in a row. -/
def HasK (l : Row) (k : Int) : Prop := ∃ v, (k, v) ∈ l
theorem HasK.mid {a b : Row} {k v q : Int} : HasK (a ++ (k, v) :: b) q ↔ HasK a q ∨ q = k ∨ HasK b q := by
  unfold HasK
  constructor
  · rintro ⟨u, h⟩
    rcases List.mem_append.1 h with h | h
    · exact .inl ⟨u, h⟩
    · rcases List.mem_cons.1 h with h | h
      · injection h with h1 h2
        exact .inr (.inl h1)
      · exact .inr (.inr ⟨u, h⟩)
  · rintro (⟨u, h⟩ | rfl | ⟨u, h⟩)
    · exact ⟨u, List.mem_append.2 (.inl h)⟩
    · exact ⟨v, by simp⟩
    · exact ⟨u, by simp [h]⟩
theorem put_new {l : Row} (h : Srt l) {k v : Int} (hk : ¬ HasK l k) : putR l k v = lo l k ++ (k, v) :: ge l k := by
  unfold putR
  congr 2
  unfold hi ge
  apply List.filter_congr
  intro x hx
  have : x.1 ≠ k := fun e => hk ⟨x.2, by rw [← e]; exact hx⟩
  simp only [decide_eq_decide]
  omega
theorem put_len {l : Row} (h : Srt l) {k v : Int} (hk : ¬ HasK l k) : (putR l k v).length = l.length + 1 := by
  rw [put_new h hk]
  have e := congrArg List.length (lo_ge h k)
  simp only [List.length_append, List.length_cons] at e ⊢
  omega
theorem put_le {l : Row} (h : Srt l) {k v : Int} : (putR l k v).length ≤ l.length + 1 ∧ l.length ≤ (putR l k v).length := by
  by_cases hk : HasK l k
  · obtain ⟨u, hu⟩ := hk
    obtain ⟨a, b, rfl⟩ := List.append_of_mem hu
    rw [put_here h]
    simp
  · rw [put_len h hk]
    omega

/-! ### The one shape of a row -/
/-- A row's map. -/
def IsP (ns : List Nd) (r : Int) (l : Row) : Prop := ∃ t, Rep ns t ∧ t.ref = r ∧ t.row = l ∧ Hp t
theorem isP_nil {ns : List Nd} {r : Int} : IsP ns r [] ↔ r = 0 := by
  constructor
  · rintro ⟨t, h1, h2, h3, h4⟩
    rw [T.row_nil h3] at h2
    exact h2.symm
  · rintro rfl
    exact ⟨.nil, trivial, rfl, rfl, trivial⟩
theorem isP_gone {ns : List Nd} {r : Int} {l : Row} (hl : l ≠ []) (hg : Gone ns r) : ¬ IsP ns r l := by
  rintro ⟨t, h1, h2, h3, h4⟩
  cases t with
  | nil => exact hl h3.symm
  | node q a k v b =>
    simp only [T.ref] at h2
    subst h2
    obtain ⟨⟨p, g, hp⟩, _⟩ := h1
    exact hg _ _ hp
theorem isP_mid {ns : List Nd} {r : Int} {a b : Row} {k v : Int} {p : Nat} {x : Nd} (hs : Srt (a ++ (k, v) :: b)) (ha : ∀ y ∈ a, Bef k y.1) (hb : ∀ y ∈ b, Bef k y.1) (hg : Got ns r p x) :
    IsP ns r (a ++ (k, v) :: b) ↔ x = trNd x.g k v ((a ++ (k, v) :: b).length : Nat) x.r0 x.r1 ∧ IsP ns x.r0 a ∧ IsP ns x.r1 b := by
  constructor
  · rintro ⟨t, h1, h2, h3, h4⟩
    cases t with
    | nil => simp [T.row] at h3
    | node q c k' v' d =>
      simp only [T.ref] at h2
      subst h2
      simp only [T.row] at h3
      obtain ⟨⟨p', g', hg'⟩, hc, hd⟩ := h1
      obtain ⟨_, e⟩ := got_one hg hg'
      have hkk : k' = k := by
        by_cases hne : k' = k
        · exact hne
        · exfalso
          have m1 : (k', v') ∈ a ++ (k, v) :: b := by rw [← h3]; simp
          have m2 : (k, v) ∈ c.row ++ (k', v') :: d.row := by rw [h3]; simp
          have b1 : Bef k k' := by
            rcases List.mem_append.1 m1 with m | m
            · exact ha (k', v') m
            · rcases List.mem_cons.1 m with m | m
              · injection m with m _; exact absurd m hne
              · exact hb (k', v') m
          have b2 : Bef k' k := by
            rcases List.mem_append.1 m2 with m | m
            · exact h4.1 (k, v) m
            · rcases List.mem_cons.1 m with m | m
              · injection m with m _; exact absurd m.symm hne
              · exact h4.2.1 (k, v) m
          exact b1.asymm b2
      subst hkk
      obtain ⟨e1, e2, e3⟩ := hs.part h3.symm
      subst e1 e2 e3
      subst e
      refine ⟨?_, ⟨c, hc, rfl, rfl, h4.2.2.1⟩, ⟨d, hd, rfl, rfl, h4.2.2.2⟩⟩
      simp [trNd, T.row_length]
      omega
  · rintro ⟨e, ⟨c, c1, c2, c3, c4⟩, ⟨d, d1, d2, d3, d4⟩⟩
    refine ⟨.node r c k v d, ⟨⟨p, x.g, ?_⟩, c1, d1⟩, rfl, by simp only [T.row]; rw [c3, d3], by rw [c3]; exact ha, by rw [d3]; exact hb, c4, d4⟩
    rw [c2, d2, ← T.row_length, ← T.row_length, c3, d3]
    have : ((a ++ (k, v) :: b).length : Nat) = a.length + b.length + 1 := by simp; omega
    rw [this] at e
    rw [← e]
    exact hg

/-! ### What is met from a reference -/
def rowF (ns : List Nd) (m : Nat) (r : Int) : Row :=
  match m with
  | 0 => []
  | m + 1 => match gotF ns r with
    | none => []
    | some (_, x) => rowF ns m x.r0 ++ (x.n, x.v) :: rowF ns (m - (rowF ns m x.r0).length) x.r1
termination_by m
decreasing_by all_goals omega
theorem rowF_zero (ns : List Nd) (r : Int) : rowF ns 0 r = [] := by rw [rowF]
theorem rowF_gone {ns : List Nd} {r : Int} (m : Nat) (h : Gone ns r) : rowF ns m r = [] := by
  cases m with
  | zero => rw [rowF]
  | succ m => rw [rowF, gotF_none.2 h]
theorem rowF_got {ns : List Nd} {r : Int} {p : Nat} {x : Nd} (m : Nat) (h : Got ns r p x) : rowF ns (m + 1) r = rowF ns m x.r0 ++ (x.n, x.v) :: rowF ns (m - (rowF ns m x.r0).length) x.r1 := by
  rw [rowF, gotF_some.2 h]
theorem rowF_len (ns : List Nd) : ∀ (m : Nat) (r : Int), (rowF ns m r).length ≤ m := by
  intro m
  induction m using Nat.strongRecOn with
  | _ m ih =>
    intro r
    cases m with
    | zero => rw [rowF_zero]; simp
    | succ m =>
      cases hg : gotF ns r with
      | none => rw [rowF_gone _ (gotF_none.1 hg)]; simp
      | some px =>
        obtain ⟨p, x⟩ := px
        rw [rowF_got m (gotF_some.1 hg)]
        have h1 := ih m (by omega) x.r0
        have h2 := ih (m - (rowF ns m x.r0).length) (by omega) x.r1
        simp only [List.length_append, List.length_cons]
        omega
theorem rowF_rep {ns : List Nd} : ∀ {t : T} {m : Nat}, Rep ns t → t.size ≤ m → rowF ns m t.ref = t.row := by
  intro t
  induction t with
  | nil =>
    intro m _ _
    exact rowF_gone m (fun p x h => got_nz h rfl)
  | node r l k v t ih1 ih2 =>
    rintro m ⟨⟨p, g, hg⟩, h1, h2⟩ hm
    simp only [T.size] at hm
    obtain ⟨m, rfl⟩ : ∃ q, m = q + 1 := ⟨m - 1, by omega⟩
    simp only [T.ref, T.row]
    rw [rowF_got m hg]
    simp only [trNd]
    rw [ih1 h1 (by omega), ih2 h2 (by rw [T.row_length]; omega)]

/-- A reference is a map's. -/
structure Mp (ns : List Nd) (t : T) : Prop where
  rep : Rep ns t
  srt : Srt t.row
  hp : Hp t
  le : t.size ≤ 200
def MapAt (ns : List Nd) (r : Int) : Prop := ∃ t, Mp ns t ∧ t.ref = r
theorem mapAt_iff {ns : List Nd} {r : Int} : MapAt ns r ↔ (rowF ns 201 r).length ≤ 200 ∧ Srt (rowF ns 201 r) ∧ IsP ns r (rowF ns 201 r) := by
  constructor
  · rintro ⟨t, h, rfl⟩
    rw [rowF_rep h.rep (by have := h.le; omega)]
    exact ⟨by rw [T.row_length]; exact h.le, h.srt, t, h.rep, rfl, rfl, h.hp⟩
  · rintro ⟨h1, h2, t, h3, h4, h5, h6⟩
    exact ⟨t, ⟨h3, by rw [h5]; exact h2, h6, by rw [← T.row_length, h5]; exact h1⟩, h4⟩
theorem isP_det {ns : List Nd} {t : T} {l : Row} (h : Rep ns t) (hi : IsP ns t.ref l) : t.row = l := by
  obtain ⟨u, h1, h2, h3, h4⟩ := hi
  rw [rep_det h h1 h2.symm]
  exact h3

end Go.Proofs.Ytfoifcbaadnigaa

/-
  Contracts: a reference's node, a map's size, a node's side (nodeOf, sizeOf, sideOf).
-/
set_option linter.unusedVariables false
set_option linter.unusedSimpArgs false
namespace Go.Proofs.Ytfoifcbaadnigaa
open Go.RowKit

/-- A reference's node; one of nothing, if it has none. -/
def nodeF (ns : List Nd) (r : Int) : Nd := match gotF ns r with | some (_, x) => x | none => bare 0
theorem nodeF_got {ns : List Nd} {r : Int} {p : Nat} {x : Nd} (h : Got ns r p x) : nodeF ns r = x := by unfold nodeF; rw [gotF_some.2 h]
theorem nodeF_gone {ns : List Nd} {r : Int} (h : Gone ns r) : nodeF ns r = bare 0 := by unfold nodeF; rw [gotF_none.2 h]
theorem nodeF_zero (ns : List Nd) : nodeF ns 0 = bare 0 := nodeF_gone (fun p x h => got_nz h rfl)
theorem got_or (ns : List Nd) (r : Int) : (∃ p x, Got ns r p x) ∨ Gone ns r := by
  cases h : gotF ns r with
  | none => exact .inr (gotF_none.1 h)
  | some px => exact .inl ⟨px.1, px.2, gotF_some.1 h⟩
theorem nodeF_ok {ns : List Nd} (hok : ∀ x ∈ ns, x.Ok) (r : Int) : (nodeF ns r).Ok := by
  rcases got_or ns r with ⟨p, x, h⟩ | h
  · rw [nodeF_got h]; exact hok x (List.mem_of_getElem? h.at_)
  · rw [nodeF_gone h]; intro z hz; simp [bare, Nd.kids] at hz; subst hz; omega

/-- One result, a node in a variable. -/
theorem results_nd1 {fn : Func} {p : Tmp} (h : fn.results = #[.cell p 68]) (tmps : Array Value) (w : World) (A : Addr) (x : Nd) (hp : tmps.getD p undef = .pointer (some A)) (hn : NdAt w A x) :
    (results fn tmps).run Try.prog w = .ok (.agg x.arr) w := by
  have hl := run_loadVar_any (P := Try.prog) w A 68 x.arr _ (fun j v hv => hn j v (by rw [← Nd.arr_get]; exact hv)) Try.underlying68 rfl (by kernel_rfl)
  have hp' : tmps[p]?.getD undef = .pointer (some A) := by simpa using hp
  simp [results, h, hp', asAddr, hl]

theorem get_any (A B : Option Addr) (n c m d : Nat) (ns : List Nd) (r : Int) (w : World) (h0 : 0 ≤ r) (h1 : r ≤ 18446744073709551615) (h : Rd w 16 A n (flat Nd.cells ns)) :
    ∃ k : Int, Calls Try.prog 51 #[.agg #[.slice A n c, .slice B m d], .int .u64 r] w fun e w' => e = .returned (.tuple #[.agg (nodeF ns r).arr, .int .i64 k]) ∧ Ext w w' := by
  rcases got_or ns r with ⟨p, x, hg⟩ | hg
  · rw [nodeF_got hg]; exact ⟨0, get_yes A n c m d B ns r p x w h0 h1 h hg⟩
  · rw [nodeF_gone hg]; exact ⟨4, get_no A n c m d B ns r w h0 h1 h hg⟩

/-- A number of a node by value. -/
theorem nd_s (x : Nd) (W : World) : (Instr.field 68 (.agg x.arr) 4).run Try.prog W = .ok (.int .i64 x.s) W := by
  simp only [Instr.field, Sem.run_bind, run_underlying Try.underlying68, Result.andThen_ok]
  exact part_i64 (t := 2) Try.underlying2 x 4 _ x.a4
theorem nd_v (x : Nd) (W : World) : (Instr.field 68 (.agg x.arr) 3).run Try.prog W = .ok (.int .i64 x.v) W := by
  simp only [Instr.field, Sem.run_bind, run_underlying Try.underlying68, Result.andThen_ok]
  exact part_i64 (t := 2) Try.underlying2 x 3 _ x.a3
theorem nd_n (x : Nd) (W : World) : (Instr.field 68 (.agg x.arr) 2).run Try.prog W = .ok (.int .i64 x.n) W := by
  simp only [Instr.field, Sem.run_bind, run_underlying Try.underlying68, Result.andThen_ok]
  exact part_i64 (t := 2) Try.underlying2 x 2 _ x.a2

end Go.Proofs.Ytfoifcbaadnigaa

/-
  Contracts: a key's node, the outmost key, whether a map is below another one (find, outmost, isBelow).
-/
set_option linter.unusedVariables false
set_option linter.unusedSimpArgs false
namespace Go.Proofs.Ytfoifcbaadnigaa
open Go.RowKit

/-- A number that a reference may have. -/
abbrev U (z : Int) : Prop := 0 ≤ z ∧ z ≤ 18446744073709551615
theorem U.zero : U 0 := ⟨by omega, by omega⟩
theorem Rep.node {ns : List Nd} {r : Int} {l : T} {k v : Int} {u : T} (h : Rep ns (.node r l k v u)) : ∃ g, nodeF ns r = trNd g k v ((l.size + u.size + 1 : Nat) : Int) l.ref u.ref := by
  obtain ⟨⟨p, g, hg⟩, _⟩ := h
  exact ⟨g, nodeF_got hg⟩
theorem Rep.kids {ns : List Nd} (hok : ∀ x ∈ ns, x.Ok) {r : Int} {l : T} {k v : Int} {u : T} (h : Rep ns (.node r l k v u)) : U l.ref ∧ U u.ref := by
  obtain ⟨⟨p, g, hg⟩, _⟩ := h
  have := hok _ (List.mem_of_getElem? hg.at_)
  exact ⟨this l.ref (by simp [trNd, Nd.kids]), this u.ref (by simp [trNd, Nd.kids])⟩
/-- The part of a map from a key on down. -/
def T.sub : T → Int → T
  | .nil, _ => .nil
  | .node r l k v u, q => if k = q then .node r l k v u else if q < k then l.sub q else u.sub q
theorem sub_size (t : T) (q : Int) : (t.sub q).size ≤ t.size := by
  induction t with
  | nil => exact Nat.le_refl _
  | node r l k v u ih1 ih2 =>
    simp only [T.sub]
    split
    · exact Nat.le_refl _
    · split <;> simp only [T.size] <;> omega
theorem sub_rep {ns : List Nd} {t : T} (h : Rep ns t) (q : Int) : Rep ns (t.sub q) := by
  induction t with
  | nil => trivial
  | node r l k v u ih1 ih2 =>
    simp only [T.sub]
    split
    · exact h
    · split
      · exact ih1 h.2.1
      · exact ih2 h.2.2
theorem sub_is {t : T} (hs : Srt t.row) (q : Int) : (t.sub q = .nil ∧ ¬ HasK t.row q) ∨ ∃ r l v u, t.sub q = .node r l q v u ∧ (q, v) ∈ t.row := by
  induction t with
  | nil => exact .inl ⟨rfl, by rintro ⟨v, h⟩; simp [T.row] at h⟩
  | node r l k v u ih1 ih2 =>
    have hm := Srt.mid.1 hs
    simp only [T.sub]
    by_cases h1 : k = q
    · subst h1
      exact .inr ⟨r, l, v, u, by simp, by simp [T.row]⟩
    · rw [if_neg h1]
      by_cases h2 : q < k
      · rw [if_pos h2]
        rcases ih1 hm.1 with ⟨e, hn⟩ | ⟨r', l', v', u', e, hmem⟩
        · refine .inl ⟨e, fun hk => ?_⟩
          rcases HasK.mid.1 hk with hk | hk | ⟨v', hk⟩
          · exact hn hk
          · exact h1 hk.symm
          · have := hm.2.2.2.1 _ hk; simp at this; omega
        · exact .inr ⟨r', l', v', u', e, by simp [T.row, hmem]⟩
      · rw [if_neg h2]
        rcases ih2 hm.2.1 with ⟨e, hn⟩ | ⟨r', l', v', u', e, hmem⟩
        · refine .inl ⟨e, fun hk => ?_⟩
          rcases HasK.mid.1 hk with ⟨v', hk⟩ | hk | hk
          · have := hm.2.2.1 _ hk; simp at this; omega
          · exact h1 hk.symm
          · exact hn hk
        · exact .inr ⟨r', l', v', u', e, by simp [T.row, hmem]⟩
/-- A measure of a reference. -/
def big (ns : List Nd) (v : Value) : Nat := (rowF ns 200 (intOf v)).length
theorem big_rep {ns : List Nd} {t : T} (h : Rep ns t) (hz : t.size ≤ 200) : big ns (.int .u64 t.ref) = t.size := by
  show (rowF ns 200 t.ref).length = _
  rw [rowF_rep h hz, T.row_length]

end Go.Proofs.Ytfoifcbaadnigaa

/-
  A region that draws its order: a head that is quiet in a class of worlds, walked once, and behind it a tail in one forced order, walked in whatever world of the class.
-/
set_option linter.unusedVariables false
set_option linter.unusedSimpArgs false
namespace Go.Proofs.Ytfoifcbaadnigaa
open Go.RowKit

section
variable {P : Program} {ops : Array Oper} {md : Region.Mode} {C : World → Prop}

/-- Of the first n operations some come up, in whatever order; then L. -/
def HeadQ (P : Program) (md : Region.Mode) (ops : Array Oper) (C : World → Prop) (n : Nat) (L : Array Bool → Act → Prop) : Nat → Array Bool → Act → Prop
  | 0, li, a => L li a
  | f + 1, li, a => Region.ready md ops li ≠ [] ∧ ∀ i ∈ Region.ready md ops li, i < n ∧ qOp P ops C i (HeadQ P md ops C n L f (li.setIfInBounds i true)) a

theorem HeadQ.any {n g : Nat} {L : Array Bool → Act → Prop} {Q : Exit → Act → World → Prop} (hL : ∀ li a w, C w → L li a → wpAny P md ops Q g li a w) (f : Nat) :
    ∀ (li : Array Bool) (a : Act) (w : World), C w → HeadQ P md ops C n L f li a → wpAny P md ops Q (f + g) li a w := by
  induction f with
  | zero =>
    intro li a w hw h
    rw [Nat.zero_add]
    exact hL li a w hw h
  | succ f ih =>
    intro li a w hw h
    rw [Nat.succ_add]
    exact ⟨fun e => absurd e h.1, fun i hi => wpOp_of_qOp hw (fun a' w' hw' h' => ih _ a' w' hw' h') (h.2 i hi).2⟩

theorem HeadQ.first {n i : Nat} {o : Oper} {v : Value} {L : Array Bool → Act → Prop} (ho : ops[i]? = some o) (hsel : ∀ (j : Nat) (x : Oper) cs b, ops[j]? = some x → x.op ≠ .select cs b)
    (hw : ∀ (li : Array Bool), HeadInv md ops n li → ∀ i, i < n → li.getD i true = false → ∀ t, n ≤ t → t ∉ Region.ready md ops li) (hin : i < n) (hL : ∀ li a, L li a → ∀ j ∈ Region.ready md ops li, n ≤ j) (f : Nat) :
    ∀ (li : Array Bool) (a : Act), HeadInv md ops n li → (∀ j x, ops[j]? = some x → j ≠ i → li.getD j true = false → (∀ e ∈ x.after, Region.binds md e = true → e.on ≠ i) → o.apart ops x = true) →
      i ∈ Region.ready md ops li → YieldsIn P ops C o v a → HeadQ P md ops C n L f (li.setIfInBounds i true) (a.put o.dst v) → HeadQ P md ops C n L (f + 1) li a := by
  -- what is ready stands in the head, as long as i has not come up
  have low : ∀ (li : Array Bool), HeadInv md ops n li → i ∈ Region.ready md ops li → ∀ j ∈ Region.ready md ops li, j < n := fun li inv hi j hj => by
    by_cases h : j < n
    · exact h
    · exact absurd hj (hw li inv i hin (mem_ready.1 hi).1 j (by omega))
  induction f with
  | zero =>
    intro li a inv hap hi hy h
    refine ⟨List.ne_nil_of_mem hi, fun j hj => ⟨low li inv hi j hj, ?_⟩⟩
    by_cases e : j = i
    · subst e
      exact hy.qOp ho h
    · have := hL _ _ h j (ready_mono hj e)
      have := low li inv hi j hj
      omega
  | succ f ih =>
    intro li a inv hap hi hy h
    refine ⟨List.ne_nil_of_mem hi, fun j hj => ⟨low li inv hi j hj, ?_⟩⟩
    by_cases e : j = i
    · subst e
      exact hy.qOp ho h
    · obtain ⟨hju, x, hx, hall⟩ := mem_ready.1 hj
      have hno : ∀ d ∈ x.after, Region.binds md d = true → d.on ≠ i := fun d hd hb he => by
        have h1 := hall d hd hb
        rw [he, getD_both (mem_ready.1 hi).1] at h1
        cases h1
      have hq := qOp_put hx (hap j x hx e hju hno) (fun cs b => hsel i o cs b ho) (fun cs b => hsel j x cs b hx) hy (h.2 j (ready_mono hj e)).2
      refine qOp_mono (fun a' ha => ih _ a' (inv.set hj (low li inv hi j hj)) (fun k y hy' hk hu hno' => hap k y hy' hk ?_ hno') (ready_mono hi (Ne.symm e)) ha.1 ?_) hq
      · by_cases ejk : j = k
        · subst ejk; exact hju
        · rwa [getD_set_ne true ejk] at hu
      · rw [Array.setIfInBounds_comm _ _ e]
        exact ha.2

theorem HeadQ.lex {n g : Nat} {Q : Act → Prop} (hsel : Region.noSelect ops = true) (hs : Region.sinkB md ops n = true) (hc : Region.chainB md ops n = true) (hn : n < ops.size) (l : List Oper) :
    ∀ (k : Nat) (li : Array Bool) (a : Act), (∀ j, j < l.length → l[j]? = ops[k + j]?) → k + l.length = n → HeadInv md ops n li → Region.lexHead md ops g l.length k li = true → wpQuiet P ops C Q l a →
      HeadQ P md ops C n (fun li' a' => Region.seqB md ops g n li' = true ∧ Q a') l.length li a := by
  induction l with
  | nil =>
    intro k li a _ hk _ hB h
    obtain rfl : k = n := by simpa using hk
    exact ⟨by simpa [Region.lexHead] using hB, h⟩
  | cons o l ih =>
    intro k li a hl hk inv hB h
    have h0 : ops[k]? = some o := by simpa using (hl 0 (by simp)).symm
    simp only [List.length_cons] at hk
    simp only [List.length_cons, Region.lexHead, Bool.and_eq_true] at hB
    have hr : k ∈ Region.ready md ops li := by simpa using hB.1.1
    have hq : qOp P ops C k (wpQuiet P ops C Q l) a := by unfold qOp; simp only [h0]; exact h
    obtain ⟨v, hy, hK⟩ := yieldsIn_of_qOp h0 hq
    refine HeadQ.first h0 (Region.noSelect_spec hsel) (fun li' inv' i hi hu => tail_waits hs hc hn inv' _ i rfl hi hu) (by omega) (fun li' a' hL => seqB_ready hL.1) l.length li a inv (Region.free_spec h0 hB.1.2) hr hy ?_
    exact ih (k + 1) _ _ (fun j hj => by have := hl (j + 1) (by simp; omega); simpa [Nat.add_assoc, Nat.add_comm 1 j] using this) (by omega) (inv.set hr (by omega)) hB.2 hK

theorem wp_region_quiet_tail {id : Nat} {Q : Exit → Act → World → Prop} {a : Act} {w : World} {l : List Oper} (n : Nat) (hm : P.follows .mixedOrders = true) (hB : Region.lexTailB .any l.toArray n = true) (hC : C { w with drawn := w.drawn + 1 })
    (h : wpQuiet P l.toArray C (fun a' => ∀ w', C w' → wpList P l.toArray Q (l.drop n) a' w') (l.take n) a) : (Code.region id l.toArray true).wp P Q a w := by
  simp only [Region.lexTailB, Bool.and_eq_true, decide_eq_true_eq] at hB
  obtain ⟨⟨⟨⟨hsel, hn⟩, hs⟩, hc⟩, hlex⟩ := hB
  have hn' : n < l.length := by simpa using hn
  have htl : (l.take n).length = n := by simp; omega
  have hdl : (l.drop n).length = l.toArray.size - n := by simp
  have H := HeadQ.lex (md := .any) (g := l.toArray.size - n) hsel hs hc hn (l.take n) 0 (Array.replicate l.toArray.size false) a (fun j hj => by
    have hj' : j < n := by rw [htl] at hj; exact hj
    simp [hj']) (by simpa using htl) ⟨by simp, fun j x _ hl => (by rw [getD_replicate_false] at hl; cases hl), fun t _ ht => getD_in (by simpa using ht) (getD_replicate_false _ _)⟩ (by rw [htl]; exact hlex) h
  refine wp_region_any hm ?_
  have := HeadQ.any (Q := Q) (g := l.toArray.size - n) (fun li a' w' hw hL => by
    have := wpAny_of_seq (md := .any) (Q' := Q) (l.drop n) n li a' w' (fun j => by simp [List.getElem?_drop]) (by rw [hdl]; exact hL.1) (hL.2 w' hw)
    rwa [hdl] at this) _ _ _ _ hC H
  rw [htl, show n + (l.toArray.size - n) = l.toArray.size by omega] at this
  exact this

/-- .. in whatever later world. -/
theorem wp_region_later_tail {id : Nat} {Q : Exit → Act → World → Prop} {a : Act} {w : World} {l : List Oper} (n : Nat) (w0 : World) (h0 : Ext w0 w) (hm : P.follows .mixedOrders = true) (hB : Region.lexTailB .any l.toArray n = true)
    (h : wpQuiet P l.toArray (fun w' => ∃ q : Later w0, w' = q.w) (fun a' => ∀ w', (∃ q : Later w0, w' = q.w) → wpList P l.toArray Q (l.drop n) a' w') (l.take n) a) : (Code.region id l.toArray true).wp P Q a w :=
  wp_region_quiet_tail (C := fun w' => ∃ q : Later w0, w' = q.w) n hm hB ⟨⟨w.drew, h0.drew⟩, rfl⟩ h

/-! ### A pivot: quiet operations, one that may do anything, and again quiet ones, in another class. -/
def Region.afterB (md : Region.Mode) (ops : Array Oper) (n : Nat) : Bool :=
  (List.range ops.size).all fun t => decide (t ≤ n) || (List.range t).any fun j => decide (n ≤ j) && Region.waitsFor md ops t j
def Region.pivotHead (md : Region.Mode) (ops : Array Oper) (n : Nat) : Nat → Nat → Array Bool → Bool
  | 0, k, li => decide (Region.ready md ops li = [k]) && Region.lexFrom md ops (ops.size - n - 1) (k + 1) (li.setIfInBounds k true)
  | f + 1, k, li => (Region.ready md ops li).contains k && Region.free md ops li k && Region.pivotHead md ops n f (k + 1) (li.setIfInBounds k true)
def Region.pivotB (md : Region.Mode) (ops : Array Oper) (n : Nat) : Bool :=
  Region.noSelect ops && decide (n < ops.size) && Region.sinkB md ops n && Region.afterB md ops n && Region.pivotHead md ops n n 0 (Array.replicate ops.size false)

theorem pivot_waits {n : Nat} {li : Array Bool} (hs : Region.sinkB md ops n = true) (ha : Region.afterB md ops n = true) (hn : n < ops.size) (inv : HeadInv md ops n li) :
    ∀ (d i : Nat), n - i = d → i < n → li.getD i true = false → ∀ t, n ≤ t → t ∉ Region.ready md ops li := by
  intro d
  induction d using Nat.strongRecOn with
  | _ d ih =>
    intro i hd hi hu t ht hr
    obtain ⟨_, ot, hot, hall⟩ := mem_ready.1 hr
    have htl : t < ops.size := (Array.getElem?_eq_some_iff.1 hot).1
    by_cases e : t = n
    · subst e
      obtain ⟨j, hj, hj2⟩ := List.any_eq_true.1 (List.all_eq_true.1 hs i (List.mem_range.2 hi))
      simp only [Bool.and_eq_true, decide_eq_true_eq] at hj2
      obtain ⟨oj, hoj, d', hd', hb, hon⟩ := Region.waitsFor_spec hj2.2
      have hjle := List.mem_range.1 hj
      by_cases hjt : j = t
      · subst hjt
        obtain rfl : oj = ot := Option.some.inj (hoj.symm.trans hot)
        have := hall d' hd' hb
        rw [hon, getD_both hu] at this
        cases this
      · cases hl : li.getD j false with
        | true =>
          have := inv.closed j oj hoj hl d' hd' hb
          rw [hon, getD_both hu] at this
          cases this
        | false => exact ih (t - j) (by omega) j rfl (by omega) (getD_in (by rw [inv.size]; omega) hl) t (Nat.le_refl _) hr
    · have h1 := List.all_eq_true.1 ha t (List.mem_range.2 htl)
      simp only [Bool.or_eq_true, decide_eq_true_eq] at h1
      rcases h1 with h1 | h1
      · omega
      · obtain ⟨j, hj, hj2⟩ := List.any_eq_true.1 h1
        simp only [Bool.and_eq_true, decide_eq_true_eq] at hj2
        have hjt := List.mem_range.1 hj
        obtain ⟨oj, hoj, d', hd', hb, hon⟩ := Region.waitsFor_spec hj2.2
        obtain rfl : oj = ot := Option.some.inj (hoj.symm.trans hot)
        have := hall d' hd' hb
        rw [hon, getD_both (inv.tail j hj2.1 (by omega))] at this
        cases this

theorem HeadQ.pivot {n : Nat} {Q : Act → Prop} (hsel : Region.noSelect ops = true) (hs : Region.sinkB md ops n = true) (ha : Region.afterB md ops n = true) (hn : n < ops.size) (l : List Oper) :
    ∀ (k : Nat) (li : Array Bool) (a : Act), (∀ j, j < l.length → l[j]? = ops[k + j]?) → k + l.length = n → HeadInv md ops n li → Region.pivotHead md ops n l.length k li = true → wpQuiet P ops C Q l a →
      HeadQ P md ops C n (fun li' a' => (Region.ready md ops li' = [n] ∧ Region.lexFrom md ops (ops.size - n - 1) (n + 1) (li'.setIfInBounds n true) = true) ∧ Q a') l.length li a := by
  induction l with
  | nil =>
    intro k li a _ hk _ hB h
    obtain rfl : k = n := by simpa using hk
    simp only [List.length_nil, Region.pivotHead, Bool.and_eq_true, decide_eq_true_eq] at hB
    exact ⟨hB, h⟩
  | cons o l ih =>
    intro k li a hl hk inv hB h
    have h0 : ops[k]? = some o := by simpa using (hl 0 (by simp)).symm
    simp only [List.length_cons] at hk
    simp only [List.length_cons, Region.pivotHead, Bool.and_eq_true] at hB
    have hr : k ∈ Region.ready md ops li := by simpa using hB.1.1
    have hq : qOp P ops C k (wpQuiet P ops C Q l) a := by unfold qOp; simp only [h0]; exact h
    obtain ⟨v, hy, hK⟩ := yieldsIn_of_qOp h0 hq
    refine HeadQ.first h0 (Region.noSelect_spec hsel) (fun li' inv' i hi hu => pivot_waits hs ha hn inv' _ i rfl hi hu) (by omega) (fun li' a' hL j hj => by rw [hL.1.1] at hj; simp at hj; omega) l.length li a inv (Region.free_spec h0 hB.1.2) hr hy ?_
    exact ih (k + 1) _ _ (fun j hj => by have := hl (j + 1) (by simp; omega); simpa [Nat.add_assoc, Nat.add_comm 1 j] using this) (by omega) (inv.set hr (by omega)) hB.2 hK

/-- What is asked behind the pivot: the rest is quiet in some class of worlds. -/
def Piv (P : Program) (l : List Oper) (n : Nat) (Q : Exit → Act → World → Prop) (a : Act) (w : World) : Prop :=
  ∃ C2 : World → Prop, C2 w ∧ wpQuiet P l.toArray C2 (fun a' => ∀ w', C2 w' → Q .normal a' w') (l.drop (n + 1)) a

theorem wp_region_pivot {id : Nat} {Q : Exit → Act → World → Prop} {a : Act} {w : World} {l : List Oper} (n : Nat) (o : Oper) (ho : l[n]? = some o) (hm : P.follows .mixedOrders = true) (hB : Region.pivotB .any l.toArray n = true) (hC : C { w with drawn := w.drawn + 1 })
    (h : wpQuiet P l.toArray C (fun a' => ∀ w', C w' → ∀ K : Act → World → Prop, (∀ a'' w'', Piv P l n Q a'' w'' → K a'' w'') → if Region.wanted o (yielded l.toArray a'.tmps) = true then Oper.wp P o a' w' K Q else K (a'.put o.dst undef) w') (l.take n) a) : (Code.region id l.toArray true).wp P Q a w := by
  simp only [Region.pivotB, Bool.and_eq_true, decide_eq_true_eq] at hB
  obtain ⟨⟨⟨⟨hsel, hn⟩, hs⟩, ha⟩, hlex⟩ := hB
  have hn' : n < l.length := by simpa using hn
  have htl : (l.take n).length = n := by simp; omega
  have hdl : (l.drop (n + 1)).length = l.toArray.size - n - 1 := by simp; omega
  have H := HeadQ.pivot (md := .any) hsel hs ha hn (l.take n) 0 (Array.replicate l.toArray.size false) a (fun j hj => by
    have hj' : j < n := by rw [htl] at hj; exact hj
    simp [hj']) (by simpa using htl) ⟨by simp, fun j x _ hl => (by rw [getD_replicate_false] at hl; cases hl), fun t _ ht => getD_in (by simpa using ht) (getD_replicate_false _ _)⟩ (by rw [htl]; exact hlex) h
  refine wp_region_any hm ?_
  have := HeadQ.any (Q := Q) (g := l.toArray.size - n) (fun li a' w' hw hL => by
    obtain ⟨⟨hr, hx⟩, hq⟩ := hL
    obtain ⟨g, hg⟩ : ∃ g, l.toArray.size - n = g + 1 := ⟨l.toArray.size - n - 1, by omega⟩
    have hg' : g = l.toArray.size - n - 1 := by omega
    rw [hg]
    refine ⟨fun e => (by rw [hr] at e; cases e), fun i hi => ?_⟩
    rw [hr] at hi
    obtain rfl : i = n := by simpa using hi
    have h0 : l.toArray[i]? = some o := by simpa using ho
    have hk := hq w' hw (wpAny P .any l.toArray Q g (li.setIfInBounds i true)) (fun a'' w'' hp => by
      obtain ⟨C2, hc2, hq2⟩ := hp
      have h3 := wpAnyQ_lex (C := C2) (md := .any) hsel (l.drop (i + 1)) (i + 1) (li.setIfInBounds i true) a'' (fun j => by simp [List.getElem?_drop]) (by rw [hdl]; exact hx) hq2
      rw [hdl, ← hg'] at h3
      exact wpAny_of_quiet (fun _ w3 h4 h5 => h5 w3 h4) _ _ _ _ hc2 h3)
    unfold wpOp
    simp only [h0]
    by_cases hwd : Region.wanted o (yielded l.toArray a'.tmps) = true
    · rw [if_pos hwd] at hk
      rw [if_pos hwd]
      exact .inl hk
    · rw [if_neg hwd] at hk
      rw [if_neg hwd]
      exact hk) _ _ _ _ hC H
  rw [htl, show n + (l.toArray.size - n) = l.toArray.size by omega] at this
  exact this
end
end Go.Proofs.Ytfoifcbaadnigaa

/-
  Contracts: the outmost key to a side, whether a map is below another one (outmost, isBelow).
-/
set_option linter.unusedVariables false
set_option linter.unusedSimpArgs false
namespace Go.Proofs.Ytfoifcbaadnigaa
open Go.RowKit

def firstK : Row → Int
  | [] => 0
  | x :: _ => x.1
def lastK (l : Row) : Int := firstK l.reverse
theorem firstK_app {a b : Row} (h : a ≠ []) : firstK (a ++ b) = firstK a := by
  cases a with
  | nil => exact absurd rfl h
  | cons x a => rfl
theorem lastK_app {a b : Row} (h : b ≠ []) : lastK (a ++ b) = lastK b := by
  unfold lastK
  rw [List.reverse_append]
  exact firstK_app (by simpa using h)
theorem lastK_mid {a b : Row} {x : Int × Int} (h : b ≠ []) : lastK (a ++ x :: b) = lastK b := by
  rw [show a ++ x :: b = (a ++ [x]) ++ b by simp]
  exact lastK_app h
theorem lastK_one {a : Row} {x : Int × Int} : lastK (a ++ [x]) = x.1 := by simp [lastK, firstK]
theorem T.row_ne {t : T} (h : t ≠ .nil) : t.row ≠ [] := fun e => h (T.row_nil e)
theorem below_iff {a b : Row} (ha : Srt a) (hb : Srt b) (na : a ≠ []) (nb : b ≠ []) : lastK a < firstK b ↔ ∀ x ∈ a, ∀ y ∈ b, x.1 < y.1 := by
  obtain ⟨y, b, rfl⟩ : ∃ y b', b = y :: b' := by
    cases b with
    | nil => exact absurd rfl nb
    | cons y b => exact ⟨y, b, rfl⟩
  obtain ⟨a, x, rfl⟩ : ∃ a' x, a = a' ++ [x] := ⟨a.dropLast, a.getLast na, (List.dropLast_concat_getLast na).symm⟩
  rw [lastK_one]
  have h1 := Srt.app.1 ha
  have h2 := List.pairwise_cons.1 hb
  constructor
  · intro h p hp q hq
    have e1 : p.1 ≤ x.1 := by
      rcases List.mem_append.1 hp with hp | hp
      · have := h1.2.2 p hp x (by simp); omega
      · simp at hp; rw [hp]; omega
    have e2 : y.1 ≤ q.1 := by
      rcases List.mem_cons.1 hq with hq | hq
      · rw [hq]; omega
      · have := h2.1 q hq; omega
    simp only [firstK] at h
    omega
  · intro h
    exact h x (by simp) y (by simp)
/-- A map's node by its tree. -/
structure Nod (ns : List Nd) (r : Int) (l : T) (k v : Int) (u : T) (x : Nd) : Prop where
  at_ : nodeF ns r = x
  is : x = trNd x.g k v ((l.size + u.size + 1 : Nat) : Int) l.ref u.ref
  n : x.n = k
  v : x.v = v
  s : x.s = ((l.size + u.size + 1 : Nat) : Int)
  r0 : x.r0 = l.ref
  r1 : x.r1 = u.ref
theorem Rep.nod {ns : List Nd} {r : Int} {l : T} {k v : Int} {u : T} (h : Rep ns (.node r l k v u)) : ∃ x, Nod ns r l k v u x := by
  obtain ⟨g, e⟩ := h.node
  exact ⟨_, e, rfl, rfl, rfl, rfl, rfl, rfl⟩
theorem Nd.a5 (x : Nd) : x.arr[5]? = some (.int .u64 x.r0) := by simp [Nd.arr]
theorem Nd.a6 (x : Nd) : x.arr[6]? = some (.int .u64 x.r1) := by simp [Nd.arr]
/-- What a node's variable holds of a size. -/
def szAt (w : World) (b : Nat) : Nat := match w.cell? ⟨b, 4, none⟩ with | some (.int _ s) => s.toNat | _ => 0
theorem szAt_is {w : World} {b : Nat} {x : Nd} (h : Bx w b x.arr) : szAt w b = x.s.toNat := by
  unfold szAt
  rw [h.cell 4, x.a4]

end Go.Proofs.Ytfoifcbaadnigaa

/-
  Contract: the node that a map has of a key, a value and its kids (nodeWith).
-/
set_option linter.unusedVariables false
set_option linter.unusedSimpArgs false
namespace Go.Proofs.Ytfoifcbaadnigaa
open Go.RowKit

def sumI (a b : Int) : Int := wrap64 (wrap64 (1 + a) + b)
theorem sumI_is {a b : Int} (h0 : 0 ≤ a) (h1 : 0 ≤ b) (h2 : a + b ≤ 1000) : sumI a b = a + b + 1 := by
  unfold sumI wrap64
  omega
/-- The node behind some rounds. -/
def rndN (g key v k0 k1 s0 s1 : Int) : Nat → Nd
  | 0 => trNd g key v 1 0 0
  | 1 => trNd g key v (wrap64 (1 + s0)) k0 0
  | _ => trNd g key v (sumI s0 s1) k0 k1

theorem rndN_a4 (g key v k0 k1 s0 s1 : Int) : (rndN g key v k0 k1 s0 s1 0).s = 1 ∧ (rndN g key v k0 k1 s0 s1 1).s = wrap64 (1 + s0) := ⟨rfl, rfl⟩
theorem rnd_set0 (g key v k0 k1 s0 s1 : Int) : ((rndN g key v k0 k1 s0 s1 0).arr.setIfInBounds 5 (.int .u64 k0)).setIfInBounds 4 (.int .i64 (wrap64 (1 + s0))) = (rndN g key v k0 k1 s0 s1 1).arr := rfl
theorem rnd_set1 (g key v k0 k1 s0 s1 : Int) : ((rndN g key v k0 k1 s0 s1 1).arr.setIfInBounds 6 (.int .u64 k1)).setIfInBounds 4 (.int .i64 (wrap64 (wrap64 (1 + s0) + s1))) = (rndN g key v k0 k1 s0 s1 2).arr := rfl

end Go.Proofs.Ytfoifcbaadnigaa

/-
  Contracts: whether a node may be the top of a map (isTop, its closure).
-/
set_option linter.unusedVariables false
set_option linter.unusedSimpArgs false
namespace Go.Proofs.Ytfoifcbaadnigaa
open Go.RowKit

/-- THE OPERATION, in a region that is walked in whatever later world: a whole node is read. -/
theorem wpQuiet_load_node {ops : Array Oper} {rest : List Oper} {o : Oper} {a : Act} {w0 : World} {Q : Act → Prop} (hgd : Region.wanted o (yielded ops a.tmps) = true) (x : Operand) (ho : o.op = .load 68 x)
    (A : Addr) (hx : a.eval x = .pointer (some A)) (n : Nd) (hn : NdAt w0 A n)
    (h : wpQuiet Try.prog ops (fun w' => ∃ q : Later w0, w' = q.w) Q rest (a.put o.dst (.agg n.arr))) : wpQuiet Try.prog ops (fun w' => ∃ q : Later w0, w' = q.w) Q (o :: rest) a :=
  BigFrame.wpQuiet_want hgd fun K hK => ⟨.agg n.arr, fun w hw => by
    obtain ⟨q, rfl⟩ := hw
    unfold Oper.quietAt execOp
    simp only [ho, hx, Sem.run_bind, (hn.to q.ext).load, Sem.run_pure, Result.andThen_ok]
    exact ⟨rfl, rfl⟩, hK _ h⟩

/-- A kid that may be under a key. -/
def KidOk (ns : List Nd) (k z : Int) : Prop := z = 0 ∨ Bef k (nodeF ns z).n

/-- What IndexFunc tells: -1 just if all may be. -/
def ToldK (b : Bool) (w : World) (e : Ending) (w' : World) : Prop := (∃ j : Int, e = .returned (.int .i64 j) ∧ (b = true → j = -1) ∧ (b = false → 0 ≤ j)) ∧ Ext w w'

/-- A node may be the top of a map, as far as it and its kids show it. -/
structure TopOk (ns : List Nd) (x : Nd) : Prop where
  is : x = trNd x.g x.n x.v (sumI (nodeF ns x.r0).s (nodeF ns x.r1).s) x.r0 x.r1
  le : x.s ≤ 200
  k0 : KidOk ns x.n x.r0
  k1 : KidOk ns x.n x.r1

end Go.Proofs.Ytfoifcbaadnigaa

/-
  The mathematics of isMap: which references are maps', met in order.
-/
set_option linter.unusedVariables false
set_option linter.unusedSimpArgs false
namespace Go.Proofs.Ytfoifcbaadnigaa
open Go.RowKit

def Inc (l : List Int) : Prop := l.Pairwise (· < ·)
def T.keys (t : T) : List Int := t.row.map (·.1)
theorem srt_inc {l : Row} : Srt l ↔ Inc (l.map (·.1)) := by
  unfold Srt Inc
  rw [List.pairwise_map]
theorem Inc.app {a b : List Int} : Inc (a ++ b) ↔ Inc a ∧ Inc b ∧ ∀ x ∈ a, ∀ y ∈ b, x < y := List.pairwise_append
theorem Inc.nodup {l : List Int} (h : Inc l) : l.Nodup := by
  unfold Inc at h
  exact h.imp (fun {a b} hab => by omega)
theorem inc_last {l : List Int} {z k : Int} (h : Inc (l ++ [z])) : Inc (l ++ [z] ++ [k]) ↔ z < k := by
  rw [Inc.app]
  constructor
  · rintro ⟨_, _, h3⟩
    exact h3 z (by simp) k (by simp)
  · intro hz
    refine ⟨h, by simp [Inc], fun x hx y hy => ?_⟩
    simp at hy
    subst hy
    rcases List.mem_append.1 hx with hx | hx
    · have := (Inc.app.1 h).2.2 x hx z (by simp); omega
    · simp at hx; omega

/-- How many nodes come behind a key. -/
def After (ns : List Nd) (k : Int) : Nat := ns.countP (fun y => bef k y.n)
theorem after_le (ns : List Nd) (k : Int) : After ns k ≤ ns.length := List.countP_le_length
theorem after_lt {ns : List Nd} {k : Int} {x : Nd} (hx : x ∈ ns) (h : Bef k x.n) : After ns x.n < After ns k := by
  obtain ⟨a, b, rfl⟩ := List.append_of_mem hx
  unfold After
  rw [List.countP_append, List.countP_append, List.countP_cons, List.countP_cons]
  have hm : ∀ l : List Nd, l.countP (fun y => bef x.n y.n) ≤ l.countP (fun y => bef k y.n) := fun l =>
    List.countP_mono_left (fun y _ hy => bef_iff.2 (h.trans (bef_iff.1 hy)))
  have h1 := hm a
  have h2 := hm b
  have e1 : bef x.n x.n = false := bef_not.2 (Bef.irrefl _)
  have e2 : bef k x.n = true := bef_iff.2 h
  rw [e1, e2]
  simp
  omega

structure GoodT (ns : List Nd) (keys : List Int) (r : Int) (t : T) : Prop where
  rep : Rep ns t
  ref : t.ref = r
  hp : Hp t
  le : t.size ≤ 200
  inc : Inc (keys ++ t.keys)
theorem rep_s {ns : List Nd} {t : T} (h : Rep ns t) : (nodeF ns t.ref).s = t.size := by
  cases t with
  | nil => rw [show T.nil.ref = 0 from rfl, nodeF_zero]; rfl
  | node r l k v u =>
    obtain ⟨x, hx⟩ := h.nod
    rw [show (T.node r l k v u).ref = r from rfl, hx.at_, hx.s]
    rfl
theorem rep_keys {ns : List Nd} {t : T} (h : Rep ns t) : ∀ k ∈ t.keys, k ∈ ns.map (·.n) := by
  induction t with
  | nil => intro k hk; simp [T.keys, T.row] at hk
  | node r l k v u ih1 ih2 =>
    intro q hq
    obtain ⟨⟨p, g, hg⟩, h1, h2⟩ := h
    simp only [T.keys, T.row, List.map_append, List.map_cons, List.mem_append, List.mem_cons] at hq
    rcases hq with hq | rfl | hq
    · exact ih1 h1 q hq
    · exact List.mem_map.2 ⟨_, List.mem_of_getElem? hg.at_, rfl⟩
    · exact ih2 h2 q hq
theorem hp_kid {ns : List Nd} {k : Int} {t : T} (hr : Rep ns t) (hh : Hp t) : KidOk ns k t.ref ↔ ∀ x ∈ t.row, Bef k x.1 := by
  cases t with
  | nil => exact ⟨fun _ x hx => by simp [T.row] at hx, fun _ => .inl rfl⟩
  | node r l q v u =>
    obtain ⟨x, hx⟩ := hr.nod
    have hn : (nodeF ns (T.node r l q v u).ref).n = q := by rw [show (T.node r l q v u).ref = r from rfl, hx.at_, hx.n]
    constructor
    · rintro (h | h)
      · exact absurd h hr.ref_nz
      · rw [hn] at h
        intro y hy
        simp only [T.row] at hy
        rcases List.mem_append.1 hy with hy | hy
        · exact h.trans (hh.1 y hy)
        · rcases List.mem_cons.1 hy with hy | hy
          · rw [hy]; exact h
          · exact h.trans (hh.2.1 y hy)
    · intro h
      right
      rw [hn]
      exact h (q, v) (by simp [T.row])
theorem keys_node (r : Int) (l : T) (k v : Int) (u : T) (keys : List Int) : keys ++ (T.node r l k v u).keys = keys ++ l.keys ++ [k] ++ u.keys := by simp [T.keys, T.row]

theorem good_zero {ns : List Nd} {keys : List Int} (h : Inc keys) : GoodT ns keys 0 .nil := ⟨trivial, rfl, trivial, Nat.zero_le _, by simpa [T.keys, T.row] using h⟩
theorem good_node {ns : List Nd} {keys : List Int} {r : Int} {p : Nat} {x : Nd} {l u : T} (hg : Got ns r p x) (ht : TopOk ns x) (h1 : GoodT ns keys x.r0 l) (h2 : GoodT ns (keys ++ l.keys ++ [x.n]) x.r1 u) : GoodT ns keys r (.node r l x.n x.v u) := by
  have e1 := rep_s h1.rep
  have e2 := rep_s h2.rep
  rw [h1.ref] at e1
  rw [h2.ref] at e2
  have hi := ht.is
  rw [e1, e2, sumI_is (by omega) (by omega) (by have := h1.le; have := h2.le; omega)] at hi
  have hs : x.s = (l.size : Int) + u.size + 1 := by rw [hi]; rfl
  refine ⟨⟨⟨p, x.g, ?_⟩, h1.rep, h2.rep⟩, rfl, ⟨?_, ?_, h1.hp, h2.hp⟩, ?_, ?_⟩
  · rw [h1.ref, h2.ref]
    rw [hi] at hg
    simpa using hg
  · exact (hp_kid h1.rep h1.hp).1 (by rw [h1.ref]; exact ht.k0)
  · exact (hp_kid h2.rep h2.hp).1 (by rw [h2.ref]; exact ht.k1)
  · have := ht.le
    simp only [T.size]
    omega
  · rw [keys_node]
    exact h2.inc
theorem good_inv {ns : List Nd} {keys : List Int} {r : Int} {p : Nat} {x : Nd} {t : T} (hg : Got ns r p x) (h : GoodT ns keys r t) :
    TopOk ns x ∧ ∃ l u, GoodT ns keys x.r0 l ∧ Inc (keys ++ l.keys ++ [x.n]) ∧ GoodT ns (keys ++ l.keys ++ [x.n]) x.r1 u := by
  cases t with
  | nil => exact absurd h.ref.symm (got_nz hg)
  | node r' l k v u =>
    obtain rfl : r' = r := h.ref
    obtain ⟨⟨p', g, hg'⟩, hl, hu⟩ := h.rep
    obtain ⟨_, rfl⟩ := got_one hg hg'
    have hle := h.le
    have hinc := h.inc
    simp only [T.size] at hle
    rw [keys_node] at hinc
    have i1 := Inc.app.1 hinc
    have i2 := Inc.app.1 i1.1
    have e1 := rep_s hl
    have e2 := rep_s hu
    refine ⟨⟨?_, by simp [trNd]; omega, (hp_kid hl h.hp.2.2.1).2 h.hp.1, (hp_kid hu h.hp.2.2.2).2 h.hp.2.1⟩, l, u, ⟨hl, rfl, h.hp.2.2.1, by omega, i2.1⟩, i1.1, ⟨hu, rfl, h.hp.2.2.2, by omega, hinc⟩⟩
    simp only [trNd]
    rw [e1, e2, sumI_is (by omega) (by omega) (by omega)]
    simp
theorem good_top {ns : List Nd} {keys : List Int} {r : Int} {t : T} (hr : r ≠ 0) (h : GoodT ns keys r t) : TopOk ns (nodeF ns r) := by
  rcases got_or ns r with ⟨p, x, hg⟩ | hg
  · rw [nodeF_got hg]; exact (good_inv hg h).1
  · exfalso
    cases t with
    | nil => exact hr h.ref.symm
    | node r' l k v u =>
      obtain rfl : r' = r := h.ref
      obtain ⟨⟨p', g, hg'⟩, _⟩ := h.rep
      exact hg _ _ hg'
theorem top_got {ns : List Nd} {r : Int} (h : TopOk ns (nodeF ns r)) : ∃ p x, Got ns r p x ∧ nodeF ns r = x ∧ TopOk ns x := by
  rcases got_or ns r with ⟨p, x, hg⟩ | hg
  · have e := nodeF_got hg
    rw [e] at h
    exact ⟨p, x, hg, e, h⟩
  · have h' := h.is
    rw [nodeF_gone hg] at h'
    have := congrArg Nd.k h'
    simp [bare, trNd] at this
theorem kid_after {ns : List Nd} {k z : Int} {d : Nat} (hk : KidOk ns k z) (hd : After ns k < d + 1) : ∀ p x, Got ns z p x → After ns x.n < d := by
  intro p x hg
  rcases hk with rfl | hk
  · exact absurd rfl (got_nz hg)
  · rw [nodeF_got hg] at hk
    have := after_lt (List.mem_of_getElem? hg.at_) hk
    omega

/-- Keys that were met. -/
structure KeyOk (ns : List Nd) (keys : List Int) : Prop where
  inc : Inc keys
  sub : ∀ k ∈ keys, k ∈ ns.map (·.n)
theorem KeyOk.len {ns : List Nd} {keys : List Int} (h : KeyOk ns keys) : keys.length ≤ ns.length := by
  have := h.inc.nodup.length_le_of_subset (fun k hk => h.sub k hk)
  simpa using this
theorem KeyOk.good {ns : List Nd} {keys : List Int} {r : Int} {t : T} (h : KeyOk ns keys) (hg : GoodT ns keys r t) : KeyOk ns (keys ++ t.keys) :=
  ⟨hg.inc, fun k hk => by
    rcases List.mem_append.1 hk with hk | hk
    · exact h.sub k hk
    · exact rep_keys hg.rep k hk⟩
theorem KeyOk.snoc {ns : List Nd} {keys : List Int} {k : Int} (h : KeyOk ns keys) (hi : Inc (keys ++ [k])) (hk : k ∈ ns.map (·.n)) : KeyOk ns (keys ++ [k]) :=
  ⟨hi, fun q hq => by
    rcases List.mem_append.1 hq with hq | hq
    · exact h.sub q hq
    · simp at hq; subst hq; exact hk⟩
theorem mapAt_good {ns : List Nd} {r : Int} : MapAt ns r ↔ ∃ t, GoodT ns [] r t := by
  constructor
  · rintro ⟨t, h, e⟩
    exact ⟨t, h.rep, e, h.hp, h.le, by simpa [T.keys] using srt_inc.1 h.srt⟩
  · rintro ⟨t, h⟩
    exact ⟨t, ⟨h.rep, srt_inc.2 (by simpa [T.keys] using h.inc), h.hp, h.le⟩, h.ref⟩

end Go.Proofs.Ytfoifcbaadnigaa

/-
  Stores into a block of the call's own that is known whole: one cell; the two cells of an arena.
-/
set_option linter.unusedVariables false
set_option linter.unusedSimpArgs false
namespace Go.Proofs.Ytfoifcbaadnigaa
open Go.RowKit

theorem run_storeVar_cell {P : Program} (w : World) (b j : Nat) (ty : TypeId) (v : Value) (cs : Array Value) (hB : Bx w b cs) (hj : j < cs.size) (hi : (P.info? ty).map (·.size) = some 1) (h1 : v.oneCell' = true) :
    (storeVar ty ⟨b, j, none⟩ v).run P w = .ok () (w.setCell ⟨b, j, none⟩ v) := by
  have hc : v.cells = #[v] := by cases v <;> first | rfl | cases h1
  have h0 := (hB.cell j).trans (Array.getElem?_eq_getElem hj)
  have hf := hB.free j
  cases hq : P.info? ty with
  | none => simp [hq] at hi
  | some i =>
    have hs : i.size = 1 := by simpa [hq] using hi
    have := run_storeCells_cells (P := P) b j [v] 0 w (fun k hk => by
      obtain rfl : k = 0 := by simp at hk; omega
      simpa using (by rw [h0]; rfl : (w.cell? ⟨b, j, none⟩).isSome = true)) (fun k hk => by
      obtain rfl : k = 0 := by simp at hk; omega
      simpa using hf) (fun x hx => by simp at hx; subst hx; exact h1)
    simp only [Nat.add_zero, World.setCells] at this
    simp [storeVar, sizeOf, typeInfo, hq, hc, hs, this]

/-- THE OPERATION: one cell is stored into a block of the call's own. -/
theorem wpList_store_cell {P : Program} {ops : Array Oper} {rest : List Oper} {o : Oper} {a : Act} {w : World} {Q : Exit → Act → World → Prop} (hgd : Region.wanted o (yielded ops a.tmps) = true) (ty : TypeId) (x y : Operand) (ho : o.op = .store ty x y)
    (b j : Nat) (hx : a.eval x = .pointer (some ⟨b, j, none⟩)) (v : Value) (hy : a.eval y = v) (h1 : v.oneCell' = true) (hi : (P.info? ty).map (·.size) = some 1) (cs : Array Value) (hB : Bx w b cs) (hj : j < cs.size)
    (h : ∀ W, Bx W b (cs.setIfInBounds j v) → Only b w W → wpList P ops Q rest (a.put o.dst undef) W) : wpList P ops Q (o :: rest) a w :=
  Go.BigFrame.wpList_want hgd fun K hK => by
    unfold Oper.wp execOp
    simp only [ho, hx, hy, Instr.storeAt, Instr.sureAddr, Sem.run_bind, Sem.run_pure, Result.andThen_ok, run_storeVar_cell w b j ty v cs hB hj hi h1]
    exact hK _ _ (h _ (hB.set hj v) ((Only.refl b w).set j v))

/-- THE OPERATION: an arena by value is stored into the first two cells of a block of the call's own. -/
theorem wpList_store_ar {ops : Array Oper} {rest : List Oper} {o : Oper} {a : Act} {w : World} {Q : Exit → Act → World → Prop} (hgd : Region.wanted o (yielded ops a.tmps) = true) (x y : Operand) (ho : o.op = .store 26 x y)
    (b : Nat) (hx : a.eval x = .pointer (some ⟨b, 0, none⟩)) (u v : Value) (hy : a.eval y = .agg #[u, v]) (hu : u.oneCell' = true) (hv : v.oneCell' = true) (cs : Array Value) (hB : Bx w b cs) (hc : 2 ≤ cs.size)
    (h : ∀ W, Bx W b ((cs.setIfInBounds 0 u).setIfInBounds 1 v) → Only b w W → wpList Try.prog ops Q rest (a.put o.dst undef) W) : wpList Try.prog ops Q (o :: rest) a w := by
  have ht : w.there b 0 (#[u, v] : Array Value).size := fun j hj => by
    rw [Nat.zero_add]
    have hj2 : j < 2 := hj
    refine ⟨?_, hB.free j⟩
    rw [hB.cell j, Array.getElem?_eq_getElem (by omega)]; rfl
  exact Go.BigFrame.wpList_want hgd fun K hK => by
    unfold Oper.wp execOp
    simp only [ho, hx, hy, Sem.run_bind, run_storeAt_mid (P := Try.prog) w b 0 26 #[u, v] ht (by kernel_rfl) (by simp [hu, hv]), Sem.run_pure, Result.andThen_ok]
    refine hK _ _ (h _ ?_ (setCells_only b _ 0 w w (Only.refl b w)))
    exact (hB.set (j := 0) (by omega) u).set (j := 1) (by simp; omega) v
/-- One cell that holds a reference is read. -/
theorem oneCell_slice (A : Option Addr) (n c : Nat) : (Value.slice A n c).oneCell' = true := rfl
theorem oneCell_int (k : IntKind) (z : Int) : (Value.int k z).oneCell' = true := rfl
end Go.Proofs.Ytfoifcbaadnigaa

/-
  Contracts: the closure of isMap, which calls itself; isMap; Right.
-/
set_option linter.unusedVariables false
set_option linter.unusedSimpArgs false
namespace Go.Proofs.Ytfoifcbaadnigaa
open Go.RowKit

/-- Where the closure's variables lie. -/
structure SpM (base ba bf bk : Nat) : Prop where
  a : base ≤ ba
  f : base ≤ bf
  k : base ≤ bk
  ka : bk ≠ ba
  kf : bk ≠ bf

theorem i64_info : (Try.prog.info? 2).map (fun i => (i.zero, i.size, i.bytes)) = some (some (.int .i64 0), 1, 8) := by kernel_rfl
end Go.Proofs.Ytfoifcbaadnigaa

/-
  Contracts: isMap, Right of package treap.
-/
set_option linter.unusedVariables false
set_option linter.unusedSimpArgs false
namespace Go.Proofs.Ytfoifcbaadnigaa
open Go.RowKit

end Go.Proofs.Ytfoifcbaadnigaa

/-
  A drawing region of two calls in a chain and two allocs, in whatever order ('x, y := f(..), g(..)' of boxed variables).
-/
set_option linter.unusedVariables false
set_option linter.unusedSimpArgs false
namespace Go.Proofs.Ytfoifcbaadnigaa
open Go.RowKit

section
variable {P : Program} {ops : Array Oper} {md : Region.Mode} {S : World → Prop} {Q : Exit → Act → World → Prop} {w : World}

theorem wpOp_of_wp {i : Nat} {o : Oper} {K : Act → World → Prop} {a : Act} {w : World} (ho : ops[i]? = some o) (hw : Region.wanted o (yielded ops a.tmps) = true) (h : Oper.wp P o a w K Q) : wpOp P ops Q i K a w := by
  unfold wpOp
  simp only [ho, hw, if_true]
  exact .inl h

/-- What a slot holds that an alloc has filled, or not yet. -/
def Slot (w W : World) (p : Bool) (v : Value) (c : Array Value) : Prop := (p = false ∧ v = undef) ∨ (p = true ∧ ∃ b, v = .pointer (some ⟨b, 0, none⟩) ∧ Bx W b c ∧ w.heap.size ≤ b)
theorem Slot.to {w W W' : World} {p : Bool} {v : Value} {c : Array Value} (h : Slot w W p v c) (hx : Ext W W') : Slot w W' p v c := by
  rcases h with h | ⟨h, b, h1, h2, h3⟩
  · exact .inl h
  · exact .inr ⟨h, b, h1, h2.to hx, h3⟩
theorem Slot.ne {w W : World} {p : Bool} {v : Value} {c : Array Value} (h : Slot w W p v c) : v ≠ .pointer (some ⟨W.heap.size, 0, none⟩) := by
  rcases h with ⟨_, rfl⟩ | ⟨h, b, rfl, h2, h3⟩
  · intro e; cases e
  · intro e
    injection e with e
    injection e with e
    injection e with e
    have := h2.lt
    omega

theorem held_xy (iA iB i1 i2 : Nat) (vA vB : Value) (c1 c2 : Array Value) (t1 t2 : TypeId) (f : Nat) (lf : Bool → Bool → Bool → Bool → Array Bool) (fr : Value → Value → Value → Value → Act)
    (hlA : ∀ kB p q, (lf false kB p q).setIfInBounds iA true = lf true kB p q) (hlB : ∀ kA p q, (lf kA false p q).setIfInBounds iB true = lf kA true p q)
    (hl1 : ∀ kA kB q, (lf kA kB false q).setIfInBounds i1 true = lf kA kB true q) (hl2 : ∀ kA kB p, (lf kA kB p false).setIfInBounds i2 true = lf kA kB p true)
    (hr : ∀ kA kB p q, (kB = true → kA = true) → ¬ (kA = true ∧ kB = true ∧ p = true ∧ q = true) → Region.ready md ops (lf kA kB p q) ≠ [] ∧ ∀ j ∈ Region.ready md ops (lf kA kB p q), (j = iA ∧ kA = false) ∨ (j = iB ∧ kA = true ∧ kB = false) ∨ (j = i1 ∧ p = false) ∨ (j = i2 ∧ q = false))
    (hA : ∀ v1 v2 W (K : Act → World → Prop), Ext w W → (∀ W', Ext W W' → K (fr vA undef v1 v2) W') → wpOp P ops Q iA K (fr undef undef v1 v2) W)
    (hB : ∀ v1 v2 W (K : Act → World → Prop), Ext w W → (∀ W', Ext W W' → K (fr vA vB v1 v2) W') → wpOp P ops Q iB K (fr vA undef v1 v2) W)
    (h1 : ∀ uA uB v2 W (K : Act → World → Prop), K (fr uA uB (.pointer (some ⟨W.heap.size, 0, none⟩)) v2) (W.alloc (.cells c1 t1)) → wpOp P ops Q i1 K (fr uA uB undef v2) W)
    (h2 : ∀ uA uB v1 W (K : Act → World → Prop), K (fr uA uB v1 (.pointer (some ⟨W.heap.size, 0, none⟩))) (W.alloc (.cells c2 t2)) → wpOp P ops Q i2 K (fr uA uB v1 undef) W)
    (hend : ∀ W b1 b2, Ext w W → b1 ≠ b2 → w.heap.size ≤ b1 → w.heap.size ≤ b2 → Bx W b1 c1 → Bx W b2 c2 → wpAnyH P md ops Q (fun W => Ext w W) f (lf true true true true) (fr vA vB (.pointer (some ⟨b1, 0, none⟩)) (.pointer (some ⟨b2, 0, none⟩))) W)
    {li : Array Bool} {a : Act} {W : World} (hli : li = lf false false false false) (ha : a = fr undef undef undef undef) (hW : Ext w W) : wpAnyH P md ops Q (fun W => Ext w W) (f + 4) li a W := by
  have key : ∀ (n : Nat) (kA kB p q : Bool), (kB = true → kA = true) → kA.toNat + kB.toNat + p.toNat + q.toNat + n = 4 → ∀ (W : World) (v1 v2 : Value), Ext w W → Slot w W p v1 c1 → Slot w W q v2 c2 → (∀ b, v1 = .pointer (some ⟨b, 0, none⟩) → v2 ≠ .pointer (some ⟨b, 0, none⟩)) →
      wpAnyH P md ops Q (fun W => Ext w W) (f + n) (lf kA kB p q) (fr (bif kA then vA else undef) (bif kB then vB else undef) v1 v2) W := by
    intro n
    induction n with
    | zero =>
      intro kA kB p q hk hn W v1 v2 hW s1 s2 hne
      obtain ⟨rfl, rfl, rfl, rfl⟩ : kA = true ∧ kB = true ∧ p = true ∧ q = true := by
        cases kA <;> cases kB <;> cases p <;> cases q <;> simp at hn ⊢
      rcases s1 with ⟨h, _⟩ | ⟨_, b1, rfl, hb1, hs1⟩
      · cases h
      rcases s2 with ⟨h, _⟩ | ⟨_, b2, rfl, hb2, hs2⟩
      · cases h
      exact hend W b1 b2 hW (fun e => hne b1 rfl (by rw [e])) hs1 hs2 hb1 hb2
    | succ n ih =>
      intro kA kB p q hk hn W v1 v2 hW s1 s2 hne
      have hnot : ¬ (kA = true ∧ kB = true ∧ p = true ∧ q = true) := by
        rintro ⟨rfl, rfl, rfl, rfl⟩
        simp at hn
      obtain ⟨hr1, hr2⟩ := hr kA kB p q hk hnot
      refine ⟨fun h0 => absurd h0 hr1, fun j hj => ?_⟩
      rcases hr2 j hj with ⟨rfl, rfl⟩ | ⟨rfl, rfl, rfl⟩ | ⟨rfl, rfl⟩ | ⟨rfl, rfl⟩
      · obtain rfl : kB = false := by cases kB <;> simp_all
        refine hA v1 v2 W _ hW fun W' hx => ⟨hW.step hx, ?_⟩
        rw [hlA]
        exact ih true false p q (fun h => by cases h) (by simp at hn ⊢; omega) W' v1 v2 (hW.step hx) (s1.to hx) (s2.to hx) hne
      · refine hB v1 v2 W _ hW fun W' hx => ⟨hW.step hx, ?_⟩
        rw [hlB]
        exact ih true true p q (fun _ => rfl) (by simp at hn ⊢; omega) W' v1 v2 (hW.step hx) (s1.to hx) (s2.to hx) hne
      · obtain rfl : v1 = undef := by
          rcases s1 with ⟨_, h⟩ | ⟨h, _⟩
          · exact h
          · cases h
        have hx : Ext W (W.alloc (.cells c1 t1)) := (Ext.refl W).new _
        refine h1 _ _ v2 W _ ⟨hW.step hx, ?_⟩
        rw [hl1]
        exact ih kA kB true q hk (by simp at hn ⊢; omega) _ _ v2 (hW.step hx) (.inr ⟨rfl, _, rfl, Bx.new W c1 t1, hW.size⟩) (s2.to hx) (fun b e => by
          injection e with e; injection e with e; injection e with e
          subst e
          exact s2.ne)
      · obtain rfl : v2 = undef := by
          rcases s2 with ⟨_, h⟩ | ⟨h, _⟩
          · exact h
          · cases h
        have hx : Ext W (W.alloc (.cells c2 t2)) := (Ext.refl W).new _
        refine h2 _ _ v1 W _ ⟨hW.step hx, ?_⟩
        rw [hl2]
        exact ih kA kB p true hk (by simp at hn ⊢; omega) _ v1 _ (hW.step hx) (s1.to hx) (.inr ⟨rfl, _, rfl, Bx.new W c2 t2, hW.size⟩) (fun b e h => by
          injection h with h; injection h with h; injection h with h
          exact s1.ne (by rw [h]; exact e))
  subst hli; subst ha
  exact key 4 false false false false (fun h => by cases h) rfl W undef undef hW (.inl ⟨rfl, rfl⟩) (.inl ⟨rfl, rfl⟩) (fun b e => by cases e)
end
end Go.Proofs.Ytfoifcbaadnigaa

/-
  The maker's memory; contracts: makerOf, answer.
-/
set_option linter.unusedVariables false
set_option linter.unusedSimpArgs false
namespace Go.Proofs.Ytfoifcbaadnigaa
open Go.RowKit

/-- What a maker holds: an arena that may be, and an error. -/
structure Mk (w : World) (b : Nat) (ns : List Nd) (fs : List Int) (err : Int) : Prop where
  box : ∃ (A : Option Addr) (n c : Nat) (B : Option Addr) (m d : Nat), Bx w b #[.slice A n c, .slice B m d, .int .i64 err] ∧ Ar w A n B m ns fs ∧ (∀ q, A = some q → q.block ≠ b) ∧ (∀ q, B = some q → q.block ≠ b)
  may : ArMay ns fs
  err : err = 0 ∨ err = 2
theorem Mk.to {w w' : World} {b : Nat} {ns : List Nd} {fs : List Int} {err : Int} (h : Mk w b ns fs err) (hx : Ext w w') : Mk w' b ns fs err := by
  obtain ⟨A, n, c, B, m, d, h1, h2, h3⟩ := h.box
  exact ⟨⟨A, n, c, B, m, d, h1.to hx, h2.to hx, h3⟩, h.may, h.err⟩
theorem Mk.lt {w : World} {b : Nat} {ns : List Nd} {fs : List Int} {err : Int} (h : Mk w b ns fs err) : b < w.heap.size := by
  obtain ⟨A, n, c, B, m, d, h1, _⟩ := h.box
  exact h1.lt
theorem Mk.ok {w : World} {b : Nat} {ns : List Nd} {fs : List Int} {err : Int} (h : Mk w b ns fs err) : ∀ x ∈ ns, x.Ok := by
  obtain ⟨A, n, c, B, m, d, _, h1, _⟩ := h.box
  exact h1.ok
theorem Mk.len {w : World} {b : Nat} {ns : List Nd} {fs : List Int} {err : Int} (h : Mk w b ns fs err) : ns.length ≤ 512 ∧ fs.length ≤ 512 := ⟨h.may.le, Nat.le_trans h.may.len h.may.le⟩
theorem Ar.only {w w' : World} {A B : Option Addr} {n m b : Nat} {ns : List Nd} {fs : List Int} (h : Ar w A n B m ns fs) (ho : Only b w w') (hA : ∀ q, A = some q → q.block ≠ b) (hB : ∀ q, B = some q → q.block ≠ b) : Ar w' A n B m ns fs :=
  ⟨ho.rd h.nodes hA, ho.rd h.free hB, h.ok⟩
theorem Mk.only {w w' : World} {b e : Nat} {ns : List Nd} {fs : List Int} {err : Int} (h : Mk w b ns fs err) (ho : Only e w w') (hb : e ≠ b) (hn : ∀ (A : Option Addr) (n c : Nat) (B : Option Addr) (m d : Nat), Bx w b #[.slice A n c, .slice B m d, .int .i64 err] → (∀ q, A = some q → q.block ≠ e) ∧ ∀ q, B = some q → q.block ≠ e) : Mk w' b ns fs err := by
  obtain ⟨A, n, c, B, m, d, h1, h2, h3⟩ := h.box
  obtain ⟨g1, g2⟩ := hn A n c B m d h1
  exact ⟨⟨A, n, c, B, m, d, ho.bx h1 hb.symm, h2.only ho g1 g2, h3⟩, h.may, h.err⟩
/-- A store into a block that is newer than w. -/
theorem Only.ext_new {b : Nat} {w W W' : World} (hx : Ext w W) (ho : Only b W W') (hb : w.heap.size ≤ b) : Ext w W' := ho.new hx hb

def MakerA (w : World) (ns : List Nd) (fs : List Int) (e : Ending) (w' : World) : Prop :=
  ∃ b : Nat, e = .returned (.pointer (some ⟨b, 0, none⟩)) ∧ w.heap.size ≤ b ∧ Mk w' b ns fs 0 ∧ Ext w w'

/-- What answer tells. -/
def AnsA (ns : List Nd) (fs : List Int) (err r : Int) (w : World) (e : Ending) (w' : World) : Prop :=
  ((err = 2 ∧ e = .returned (.tuple #[.agg #[.slice none 0 0, .slice none 0 0], .int .u64 0, .int .i64 2])) ∨
    (err = 0 ∧ ∃ (A : Option Addr) (n c : Nat) (B : Option Addr) (m d : Nat), e = .returned (.tuple #[.agg #[.slice A n c, .slice B m d], .int .u64 r, .int .i64 0]) ∧ Ar w' A n B m ns fs)) ∧ Ext w w'

end Go.Proofs.Ytfoifcbaadnigaa

/-
  Contract: a new node of a maker (made).
-/
set_option linter.unusedVariables false
set_option linter.unusedSimpArgs false
namespace Go.Proofs.Ytfoifcbaadnigaa
open Go.RowKit

/-- An arena that grew by some nodes at most. -/
structure Gr (ns : List Nd) (fs : List Int) (ns' : List Nd) (fs' : List Int) (c : Nat) : Prop where
  stay : ∀ (i : Nat) (x : Nd), ns[i]? = some x → x.k ≠ 0 → ns'[i]? = some x
  len : ns'.length = ns.length
  few : fs.length ≤ fs'.length + c
  le : fs'.length ≤ fs.length
theorem Gr.refl (ns : List Nd) (fs : List Int) (c : Nat) : Gr ns fs ns fs c := ⟨fun _ _ h _ => h, rfl, by omega, Nat.le_refl _⟩
theorem Gr.trans {ns ns' ns'' : List Nd} {fs fs' fs'' : List Int} {c d : Nat} (h : Gr ns fs ns' fs' c) (k : Gr ns' fs' ns'' fs'' d) : Gr ns fs ns'' fs'' (c + d) :=
  ⟨fun i x hx hk => k.stay i x (h.stay i x hx hk) hk, k.len.trans h.len, by have := h.few; have := k.few; omega, Nat.le_trans k.le h.le⟩
theorem Gr.more {ns ns' : List Nd} {fs fs' : List Int} {c d : Nat} (h : Gr ns fs ns' fs' c) (hc : c ≤ d) : Gr ns fs ns' fs' d := ⟨h.stay, h.len, by have := h.few; omega, h.le⟩
theorem Gr.keep {ns ns' : List Nd} {fs fs' : List Int} {c : Nat} (h : Gr ns fs ns' fs' c) : ∀ r p x, Got ns r p x → Got ns' r p x :=
  fun r p x g => ⟨g.node, g.place, h.stay p x g.at_ g.kind, g.kind, g.gen⟩
theorem Gr.rep {ns ns' : List Nd} {fs fs' : List Int} {c : Nat} (h : Gr ns fs ns' fs' c) {t : T} (ht : Rep ns t) : Rep ns' t := ht.mono h.keep

/-- What a maker's call leaves: a reference, of which something is told if nothing failed. -/
def MOut (b : Nat) (ns : List Nd) (fs : List Int) (err : Int) (c : Nat) (good : List Nd → Int → Prop) (w : World) (e : Ending) (w' : World) : Prop :=
  ∃ ns' fs' err' z, e = .returned (.int .u64 z) ∧ Mk w' b ns' fs' err' ∧ Only b w w' ∧ Gr ns fs ns' fs' c ∧ RefMay z ∧ U z ∧ (err' = 0 → err = 0 ∧ good ns' z) ∧ (err' = 2 → err = 2 ∨ fs.length < c)

theorem makes_tr {g k v s r0 r1 : Int} (h0 : RefMay r0) (h1 : RefMay r1) : (trNd g k v s r0 r1).Makes :=
  ⟨by simp [trNd], by simp [trNd], ⟨by simp [trNd], by simp [trNd]⟩, ⟨by simp [trNd], by simp [trNd]⟩, fun r hr => by
    simp [trNd, Nd.kids] at hr
    rcases hr with rfl | rfl | rfl
    · exact h0
    · exact h1
    · exact .inl rfl⟩
theorem ok_tr {g k v s r0 r1 : Int} (h0 : U r0) (h1 : U r1) : (trNd g k v s r0 r1).Ok := fun r hr => by
  simp [trNd, Nd.kids] at hr
  rcases hr with rfl | rfl | rfl
  · exact h0
  · exact h1
  · exact ⟨by omega, by omega⟩

/-- Behind a node that was made. -/
theorem made_math {ns : List Nd} {fs : List Int} {m p : Nat} {x old : Nd} (hmay : ArMay ns fs) (hm : fs.length = m + 1) (hp : fs[m]? = some (p : Int)) (hold : ns[p]? = some old) (hk : old.k = 0) (hx : x.Makes) :
    Gr ns fs (ns.set p (x.gen old.g)) (fs.take m) 1 ∧ Got (ns.set p (x.gen old.g)) (65536 * old.g + p + 1) p (x.gen old.g) ∧ RefMay (65536 * old.g + p + 1) ∧ U (65536 * old.g + p + 1) := by
  have hpn := (List.getElem?_eq_some_iff.1 hold).1
  have hle := hmay.le
  have hg := (hmay.fits old (List.mem_of_getElem? hold)).1
  obtain ⟨g0, g1⟩ := hg
  have hnode : Node (65536 * old.g + p + 1) := ⟨by omega, by omega, by omega⟩
  refine ⟨⟨fun i y hy hyk => ?_, by simp, by rw [List.length_take]; omega, by rw [List.length_take]; omega⟩, ⟨hnode, by omega, ?_, ?_, ?_⟩, .inr hnode, ⟨by omega, by omega⟩⟩
  · by_cases e : p = i
    · subst e
      rw [hold] at hy
      injection hy with hy
      subst hy
      exact absurd hk hyk
    · rw [List.getElem?_set_ne e]
      exact hy
  · rw [List.getElem?_set_self hpn]
  · have := hx.1
    show x.k ≠ 0
    omega
  · show old.g = _
    omega

def MadeB (w : World) (n m : Nat) (nz : List Nd) (fz : List Int) (z : Int) (e : Ending) (w' : World) : Prop :=
  ∃ g c B, e = .returned (.tuple #[.agg #[.slice (some ⟨g, 0, none⟩) n c, .slice B m m], .int .u64 z, .int .i64 0]) ∧ Ar w' (some ⟨g, 0, none⟩) n B m nz fz ∧ Ext w w' ∧ FrA w g B
theorem gen_world {w W : World} {P : World → Prop} (h : Ext w W) (k : ∀ wq, Ext w wq → P wq) : P W := k W h
/-- .. and an arena, and a variable, in it. -/
theorem gen_world2 {w W : World} {A B : Option Addr} {n m q : Nat} {cs : Array Value} {ns : List Nd} {fs : List Int} {P : World → Prop} (h : Ext w W) (ha : Ar W A n B m ns fs) (hb : Bx W q cs) (k : ∀ wq, Ext w wq → Ar wq A n B m ns fs → Bx wq q cs → P wq) : P W := k W h ha hb

end Go.Proofs.Ytfoifcbaadnigaa

/-
  Contract: a map that has another kid on a side (with).
-/
set_option linter.unusedVariables false
set_option linter.unusedSimpArgs false
namespace Go.Proofs.Ytfoifcbaadnigaa
open Go.RowKit

theorem MOut.pre {b : Nat} {ns : List Nd} {fs : List Int} {err : Int} {c : Nat} {good : List Nd → Int → Prop} {w w1 : World} {e : Ending} {w' : World} (h : MOut b ns fs err c good w1 e w') (hx : Ext w w1) : MOut b ns fs err c good w e w' := by
  obtain ⟨ns', fs', err', z, h1, h2, h3, h4⟩ := h
  exact ⟨ns', fs', err', z, h1, h2, ((Only.refl b w).ext hx).trans h3, h4⟩
theorem MOut.imp {b : Nat} {ns : List Nd} {fs : List Int} {err : Int} {c : Nat} {good good' : List Nd → Int → Prop} {w : World} {e : Ending} {w' : World} (h : MOut b ns fs err c good w e w') (hg : ∀ ns' fs' z, Gr ns fs ns' fs' c → good ns' z → good' ns' z) : MOut b ns fs err c good' w e w' := by
  obtain ⟨ns', fs', err', z, h1, h2, h3, h4, h5, h6, h7, h8⟩ := h
  exact ⟨ns', fs', err', z, h1, h2, h3, h4, h5, h6, fun h => ⟨(h7 h).1, hg _ _ _ h4 (h7 h).2⟩, h8⟩
theorem refMay_rep {ns : List Nd} {t : T} (h : Rep ns t) : RefMay t.ref := by
  cases t with
  | nil => exact .inl rfl
  | node r l k v u =>
    obtain ⟨⟨p, g, hg⟩, _⟩ := h
    exact .inr hg.node
theorem kid_got {ns ns' : List Nd} {z k v : Int} {l u : T} (hk : ∀ r p x, Got ns r p x → Got ns' r p x) (hl : Rep ns l) (hu : Rep ns u) (hs : l.size + u.size ≤ 900)
    (hg : ∃ p g, Got ns' z p (trNd g k v (sumI (nodeF ns l.ref).s (nodeF ns u.ref).s) l.ref u.ref)) : Rep ns' (.node z l k v u) := by
  obtain ⟨p, g, hg⟩ := hg
  rw [rep_s hl, rep_s hu, sumI_is (by omega) (by omega) (by omega)] at hg
  exact ⟨⟨p, g, by simpa using hg⟩, hl.mono hk, hu.mono hk⟩

/-- A map with another kid. -/
def Kid0 (ns : List Nd) (kid : Int) (l : T) (k v : Int) (u : T) (ns' : List Nd) (z : Int) : Prop :=
  ∀ t, Rep ns t → t.ref = kid → t.size ≤ 400 → Rep ns' (.node z t k v u)

/-- A map with another kid. -/
def Kid1 (ns : List Nd) (kid : Int) (l : T) (k v : Int) (u : T) (ns' : List Nd) (z : Int) : Prop :=
  ∀ t, Rep ns t → t.ref = kid → t.size ≤ 400 → Rep ns' (.node z l k v t)

end Go.Proofs.Ytfoifcbaadnigaa

/-
  Contract: the map of the keys below one, and that of the others (split of a maker).
-/
set_option linter.unusedVariables false
set_option linter.unusedSimpArgs false
namespace Go.Proofs.Ytfoifcbaadnigaa
open Go.RowKit

def SOut (b : Nat) (ns : List Nd) (fs : List Int) (err : Int) (c : Nat) (good : List Nd → Int → Int → Prop) (w : World) (e : Ending) (w' : World) : Prop :=
  ∃ ns' fs' err' z1 z2, e = .returned (.tuple #[.int .u64 z1, .int .u64 z2]) ∧ Mk w' b ns' fs' err' ∧ Only b w w' ∧ Gr ns fs ns' fs' c ∧ RefMay z1 ∧ RefMay z2 ∧ U z1 ∧ U z2 ∧ (err' = 0 → err = 0 ∧ good ns' z1 z2) ∧ (err' = 2 → err = 2 ∨ fs.length < c)
theorem SOut.pre {b : Nat} {ns : List Nd} {fs : List Int} {err : Int} {c : Nat} {good : List Nd → Int → Int → Prop} {w w1 : World} {e : Ending} {w' : World} (h : SOut b ns fs err c good w1 e w') (hx : Ext w w1) : SOut b ns fs err c good w e w' := by
  obtain ⟨ns', fs', err', z1, z2, h1, h2, h3, h4⟩ := h
  exact ⟨ns', fs', err', z1, z2, h1, h2, ((Only.refl b w).ext hx).trans h3, h4⟩
/-- The two parts of a tree. -/
def GoodS (t : T) (key : Int) (ns' : List Nd) (z1 z2 : Int) : Prop :=
  ∃ t1 t2, Rep ns' t1 ∧ Rep ns' t2 ∧ t1.ref = z1 ∧ t2.ref = z2 ∧ t1.row = lo t.row key ∧ t2.row = ge t.row key ∧ Hp t1 ∧ Hp t2
theorem lo_len (l : Row) (k : Int) : (lo l k).length ≤ l.length := List.length_filter_le _ _
theorem ge_len (l : Row) (k : Int) : (ge l k).length ≤ l.length := List.length_filter_le _ _

theorem goodS_right {ns' ns'' : List Nd} {fs' fs'' : List Int} {c : Nat} {r : Int} {l : T} {k v : Int} {u : T} {key z1 z2 z : Int} (hs : Srt (T.node r l k v u).row) (hh : Hp (.node r l k v u)) (hz : l.size + u.size ≤ 200) (hk : k < key) (hg : GoodS u key ns' z1 z2) (hG : Gr ns' fs' ns'' fs'' c) (hK : Kid1 ns' z1 l k v u ns'' z) :
    GoodS (.node r l k v u) key ns'' z z2 := by
  obtain ⟨t1, t2, h1, h2, h3, h4, h5, h6, h7, h8⟩ := hg
  have hsz : t1.size ≤ 400 := by
    rw [← T.row_length, h5]
    have := lo_len u.row key
    rw [T.row_length] at this
    omega
  refine ⟨.node z l k v t1, t2, hK t1 h1 h3 hsz, hG.rep h2, rfl, h4, ?_, ?_, ⟨hh.1, fun x hx => hh.2.1 x (mem_lo.1 (h5 ▸ hx)).1, hh.2.2.1, h7⟩, h8⟩
  · simp only [T.row]
    rw [lo_left hs hk, h5]
  · simp only [T.row]
    rw [ge_left hs hk, h6]
theorem goodS_left {ns' ns'' : List Nd} {fs' fs'' : List Int} {c : Nat} {r : Int} {l : T} {k v : Int} {u : T} {key z1 z2 z : Int} (hs : Srt (T.node r l k v u).row) (hh : Hp (.node r l k v u)) (hz : l.size + u.size ≤ 200) (hk : key ≤ k) (hg : GoodS l key ns' z1 z2) (hG : Gr ns' fs' ns'' fs'' c) (hK : Kid0 ns' z2 l k v u ns'' z) :
    GoodS (.node r l k v u) key ns'' z1 z := by
  obtain ⟨t1, t2, h1, h2, h3, h4, h5, h6, h7, h8⟩ := hg
  have hsz : t2.size ≤ 400 := by
    rw [← T.row_length, h6]
    have := ge_len l.row key
    rw [T.row_length] at this
    omega
  refine ⟨t1, .node z t2 k v u, hG.rep h1, hK t2 h2 h4 hsz, h3, rfl, ?_, ?_, h7, ⟨fun x hx => hh.1 x (mem_ge.1 (h6 ▸ hx)).1, hh.2.1, h8, hh.2.2.2⟩⟩
  · simp only [T.row]
    rw [lo_right hs hk, h5]
  · simp only [T.row]
    rw [ge_right hs hk, h6]

end Go.Proofs.Ytfoifcbaadnigaa

/-
  Contract: the closure of Put.
-/
set_option linter.unusedVariables false
set_option linter.unusedSimpArgs false
namespace Go.Proofs.Ytfoifcbaadnigaa
open Go.RowKit

/-- The map in which a key has a value. -/
def GoodP (s : T) (key v : Int) (ns' : List Nd) (z : Int) : Prop := ∃ t, Rep ns' t ∧ t.ref = z ∧ t.row = putR s.row key v ∧ Hp t
/-- What a change tells that was made: a reference, and that it was. -/
def COut (b : Nat) (ns : List Nd) (fs : List Int) (err : Int) (c : Nat) (good : List Nd → Int → Prop) (w : World) (e : Ending) (w' : World) : Prop :=
  ∃ ns' fs' err' z, e = .returned (.tuple #[.int .u64 z, .bool true]) ∧ Mk w' b ns' fs' err' ∧ Only b w w' ∧ Gr ns fs ns' fs' c ∧ RefMay z ∧ U z ∧ (err' = 0 → err = 0 ∧ good ns' z) ∧ (err' = 2 → err = 2 ∨ fs.length < c)
theorem COut.pre {b : Nat} {ns : List Nd} {fs : List Int} {err : Int} {c : Nat} {good : List Nd → Int → Prop} {w w1 : World} {e : Ending} {w' : World} (h : COut b ns fs err c good w1 e w') (hx : Ext w w1) : COut b ns fs err c good w e w' := by
  obtain ⟨ns', fs', err', z, h1, h2, h3, h4⟩ := h
  exact ⟨ns', fs', err', z, h1, h2, ((Only.refl b w).ext hx).trans h3, h4⟩
/-- What the closure's variables hold. -/
structure PutV (W : World) (b bk bm bv : Nat) (key v : Int) : Prop where
  k : Bx W bk #[.int .i64 key]
  m : Bx W bm #[.pointer (some ⟨b, 0, none⟩)]
  v : Bx W bv #[.int .i64 v]
  nk : bk ≠ b
  nm : bm ≠ b
  nv : bv ≠ b
theorem PutV.to {W W' : World} {b bk bm bv : Nat} {key v : Int} (h : PutV W b bk bm bv key v) (hx : Ext W W') : PutV W' b bk bm bv key v := ⟨h.k.to hx, h.m.to hx, h.v.to hx, h.nk, h.nm, h.nv⟩
theorem PutV.only {W W' : World} {b bk bm bv : Nat} {key v : Int} (h : PutV W b bk bm bv key v) (ho : Only b W W') : PutV W' b bk bm bv key v := ⟨ho.bx h.k h.nk, ho.bx h.m h.nm, ho.bx h.v h.nv, h.nk, h.nm, h.nv⟩

/-- The change is made here. -/
def StopP (s : T) (key : Int) : Prop := match s with | .nil => True | .node _ _ k _ _ => Bef key k ∨ key = k
theorem hp_above {s : T} {key : Int} (hh : Hp s) (hs : match s with | .nil => True | .node _ _ k _ _ => Bef key k) : ∀ x ∈ s.row, Bef key x.1 := by
  cases s with
  | nil => intro x hx; simp [T.row] at hx
  | node r l k v u =>
    intro x hx
    simp only at hs
    simp only [T.row] at hx
    rcases List.mem_append.1 hx with hx | hx
    · exact hs.trans (hh.1 x hx)
    · rcases List.mem_cons.1 hx with hx | hx
      · rw [hx]; exact hs
      · exact hs.trans (hh.2.1 x hx)
theorem goodP_new {s : T} {key v z : Int} {ns' ns'' : List Nd} {z1 z2 : Int} (hS : Srt s.row) (hH : Hp s) (hz : s.size ≤ 200) (ha : ∀ x ∈ s.row, Bef key x.1) (hg : GoodS s key ns' z1 z2) (hk : ∀ r p x, Got ns' r p x → Got ns'' r p x)
    (hgot : ∃ p g, Got ns'' z p (trNd g key v (sumI (nodeF ns' z1).s (nodeF ns' z2).s) z1 z2)) : GoodP s key v ns'' z := by
  obtain ⟨t1, t2, h1, h2, rfl, rfl, h5, h6, h7, h8⟩ := hg
  have l1 : t1.size ≤ 200 := by rw [← T.row_length, h5]; have := lo_len s.row key; rw [T.row_length] at this; omega
  have l2 : t2.size ≤ 200 := by rw [← T.row_length, h6]; have := ge_len s.row key; rw [T.row_length] at this; omega
  have hn : ¬ HasK s.row key := fun ⟨u, hu⟩ => Bef.irrefl key (ha (key, u) hu)
  refine ⟨.node z t1 key v t2, kid_got hk h1 h2 (by omega) hgot, rfl, ?_, ⟨fun x hx => ha x (mem_lo.1 (h5 ▸ hx)).1, fun x hx => ha x (mem_ge.1 (h6 ▸ hx)).1, h7, h8⟩⟩
  simp only [T.row]
  rw [h5, h6, put_new hS hn]
theorem goodP_here {r : Int} {l : T} {key v' v z : Int} {u : T} {ns ns'' : List Nd} (hS : Srt (T.node r l key v' u).row) (hR : Rep ns (.node r l key v' u)) (hH : Hp (.node r l key v' u)) (hz : l.size + u.size ≤ 400) (hk : ∀ r p x, Got ns r p x → Got ns'' r p x)
    (hgot : ∃ p g, Got ns'' z p (trNd g key v (sumI (nodeF ns l.ref).s (nodeF ns u.ref).s) l.ref u.ref)) : GoodP (.node r l key v' u) key v ns'' z := by
  refine ⟨.node z l key v u, kid_got hk hR.2.1 hR.2.2 (by omega) hgot, rfl, ?_, hH⟩
  simp only [T.row]
  rw [put_here hS]

/-- What the closure tells. -/
def PutCP (b : Nat) (ns : List Nd) (fs : List Int) (err : Int) (s : T) (key v : Int) (w : World) (e : Ending) (w' : World) : Prop :=
  (StopP s key ∧ COut b ns fs err (s.size + 1) (GoodP s key v) w e w') ∨ (¬ StopP s key ∧ e = .returned (.tuple #[.int .u64 0, .bool false]) ∧ Ext w w')

end Go.Proofs.Ytfoifcbaadnigaa

/-
  Contract: a map whose path towards a key is made anew, with Put's closure (copied).
-/
set_option linter.unusedVariables false
set_option linter.unusedSimpArgs false
namespace Go.Proofs.Ytfoifcbaadnigaa
open Go.RowKit

theorem goodP_left {ns' ns'' : List Nd} {r : Int} {l : T} {k v' : Int} {u : T} {key v z' z : Int} (hS : Srt (T.node r l k v' u).row) (hH : Hp (.node r l k v' u)) (hz : l.size + u.size ≤ 200) (hn : ¬ StopP (.node r l k v' u) key) (hk : key < k) (hg : GoodP l key v ns' z') (hK : Kid0 ns' z' l k v' u ns'' z) : GoodP (.node r l k v' u) key v ns'' z := by
  obtain ⟨t, h1, h2, h3, h4⟩ := hg
  have hb : Bef k key := (Bef.total (show k ≠ key by omega)).resolve_right (fun h => hn (.inl h))
  have hs := (Srt.mid.1 hS).1
  refine ⟨.node z t k v' u, hK t h1 h2 ?_, rfl, ?_, ⟨fun x hx => ?_, hH.2.1, h4, hH.2.2.2⟩⟩
  · rw [← T.row_length, h3]
    have := (put_le hs (k := key) (v := v)).1
    rw [T.row_length] at this
    omega
  · simp only [T.row]
    rw [put_left hS hk, h3]
  · rw [h3] at hx
    rcases mem_putR hx with hx | hx
    · exact hH.1 x hx
    · rw [hx]; exact hb
theorem goodP_right {ns' ns'' : List Nd} {r : Int} {l : T} {k v' : Int} {u : T} {key v z' z : Int} (hS : Srt (T.node r l k v' u).row) (hH : Hp (.node r l k v' u)) (hz : l.size + u.size ≤ 200) (hn : ¬ StopP (.node r l k v' u) key) (hk : k < key) (hg : GoodP u key v ns' z') (hK : Kid1 ns' z' l k v' u ns'' z) : GoodP (.node r l k v' u) key v ns'' z := by
  obtain ⟨t, h1, h2, h3, h4⟩ := hg
  have hb : Bef k key := (Bef.total (show k ≠ key by omega)).resolve_right (fun h => hn (.inl h))
  have hs := (Srt.mid.1 hS).2.1
  refine ⟨.node z l k v' t, hK t h1 h2 ?_, rfl, ?_, ⟨hH.1, fun x hx => ?_, hH.2.2.1, h4⟩⟩
  · rw [← T.row_length, h3]
    have := (put_le hs (k := key) (v := v)).1
    rw [T.row_length] at this
    omega
  · simp only [T.row]
    rw [put_right hS hk, h3]
  · rw [h3] at hx
    rcases mem_putR hx with hx | hx
    · exact hH.2.1 x hx
    · rw [hx]; exact hb

end Go.Proofs.Ytfoifcbaadnigaa

/-
  Contracts: Put of package treap.
-/
set_option linter.unusedVariables false
set_option linter.unusedSimpArgs false
namespace Go.Proofs.Ytfoifcbaadnigaa
open Go.RowKit

/-- What a call that makes a map answers. -/
def ResA (ns : List Nd) (fs : List Int) (c : Nat) (l : Row) (w : World) (e : Ending) (w' : World) : Prop :=
  ((e = .returned (.tuple #[.agg #[.slice none 0 0, .slice none 0 0], .int .u64 0, .int .i64 2]) ∧ fs.length < c) ∨
    ∃ (A : Option Addr) (n c' : Nat) (B : Option Addr) (m d : Nat) (ns' : List Nd) (fs' : List Int) (z : Int), e = .returned (.tuple #[.agg #[.slice A n c', .slice B m d], .int .u64 z, .int .i64 0]) ∧ Ar w' A n B m ns' fs' ∧ ArMay ns' fs' ∧ Gr ns fs ns' fs' c ∧ U z ∧ IsP ns' z l) ∧ Ext w w'
/-- .. and what a call that fails does. -/
def ErrA (k : Int) (w : World) (e : Ending) (w' : World) : Prop := e = .returned (.tuple #[.agg #[.slice none 0 0, .slice none 0 0], .int .u64 0, .int .i64 k]) ∧ Ext w w'
/-- An arena's rows lie in no block that holds no number. -/
theorem Ar.past {W W' : World} {A B : Option Addr} {n m b : Nat} {ns : List Nd} {fs : List Int} {cs : Array Value} (h : Ar W A n B m ns fs) (hb : Bx W b cs) (hcs : ∀ (j : Nat) (k : IntKind) (z : Int), cs[j]? ≠ some (Value.int k z)) (ho : Only b W W') : Ar W' A n B m ns fs := by
  have hno : ∀ (q : Addr) (k : IntKind) (z : Int), W.cell? q = some (.int k z) → q.block ≠ b := fun q k z hq e => by
    obtain ⟨qb, qo, qs⟩ := q
    simp only at e
    subst e
    cases qs with
    | none => rw [hb.cell qo] at hq; exact hcs _ _ _ hq
    | some x =>
      unfold World.cell? at hq
      simp only [Option.isSome_some, if_true] at hq
      split at hq <;> cases hq
  refine ⟨?_, ?_, h.ok⟩
  · rcases Nat.eq_zero_or_pos n with rfl | hn
    · have hl := h.len
      have : ns = [] := List.eq_nil_of_length_eq_zero hl
      subst this
      exact Rd.nil _ _ _
    · obtain ⟨x, hx⟩ : ∃ x, ns[0]? = some x := ⟨_, List.getElem?_eq_getElem (by have := h.len; omega)⟩
      obtain ⟨ad, rfl, hn0⟩ := h.nodeAt hx
      refine ho.rd h.nodes fun q hq => ?_
      injection hq with hq
      subst hq
      have h0 := hno _ _ _ (hn0.kc)
      rwa [addr_block] at h0
  · rcases Nat.eq_zero_or_pos m with rfl | hm
    · have hl := h.lenF
      have : fs = [] := List.eq_nil_of_length_eq_zero hl
      subst this
      exact Rd.nil _ _ _
    · obtain ⟨y, hy⟩ : ∃ y, fs[0]? = some y := ⟨_, List.getElem?_eq_getElem (by have := h.lenF; omega)⟩
      obtain ⟨ad, rfl, hc⟩ := h.freeAt hy
      refine ho.rd h.free fun q hq => ?_
      injection hq with hq
      subst hq
      have h0 := hno _ _ _ hc
      rwa [addr_block] at h0
theorem noInt {u v : Value} (hu : ∀ k z, u ≠ .int k z) (hv : ∀ k z, v ≠ .int k z) : ∀ (j : Nat) (k : IntKind) (z : Int), (#[u, v] : Array Value)[j]? ≠ some (.int k z) := fun j k z e => by
  rcases j with _ | _ | j
  · simp at e; exact hu _ _ e
  · simp at e; exact hv _ _ e
  · simp at e
abbrev KeyIn (key : Int) : Prop := -1073741824 ≤ key ∧ key ≤ 1073741824

end Go.Proofs.Ytfoifcbaadnigaa

/-
  Contracts: Del, Split and Join of package treap refuse what may not be.
-/
set_option linter.unusedVariables false
set_option linter.unusedSimpArgs false
namespace Go.Proofs.Ytfoifcbaadnigaa
open Go.RowKit

theorem results_ar4 {fn : Func} {p u v x : Tmp} (h : fn.results = #[.cell p 26, .tmp u, .tmp v, .tmp x]) (tmps : Array Value) (w : World) (b : Nat) (cs : Array Value) (hp : tmps.getD p undef = .pointer (some ⟨b, 0, none⟩)) (hB : Bx w b cs) (hc : cs.size = 2) :
    (results fn tmps).run Try.prog w = .ok (.tuple #[.agg cs, tmps.getD u undef, tmps.getD v undef, tmps.getD x undef]) w := by
  have hp' : tmps[p]?.getD undef = .pointer (some ⟨b, 0, none⟩) := by simpa using hp
  simp [results, h, hp', asAddr, loadAr hB hc]

/-- What Split does, where it fails. -/
def ErrS (k : Int) (w : World) (e : Ending) (w' : World) : Prop := e = .returned (.tuple #[.agg #[.slice none 0 0, .slice none 0 0], .int .u64 0, .int .u64 0, .int .i64 k]) ∧ Ext w w'

end Go.Proofs.Ytfoifcbaadnigaa

/-
  Contract: the map of the keys of two (join of a maker).
-/
set_option linter.unusedVariables false
set_option linter.unusedSimpArgs false
namespace Go.Proofs.Ytfoifcbaadnigaa
open Go.RowKit

theorem held_one2 {P : Program} {ops : Array Oper} {S : World → Prop} {Q : Exit → Act → World → Prop} {md : Region.Mode} {i : Nat} {o : Oper} {fuel : Nat} {li : Array Bool} {a : Act} {w : World} (hr : Region.ready md ops li = [i]) (ho : ops[i]? = some o) (hw : Region.wanted o (yielded ops a.tmps) = true)
    (h : Oper.wp P o a w (fun a' w' => S w' ∧ wpAnyH P md ops Q S fuel (li.setIfInBounds i true) a' w') Q) : wpAnyH P md ops Q S (fuel + 1) li a w := by
  refine wpAnyH_all hr (by simp) (fun j hj => ?_)
  obtain rfl : j = i := by simpa using hj
  exact wpOp_of_wp ho hw h
theorem wp_store_nd {o : Oper} {a : Act} {w : World} {K : Act → World → Prop} {Q : Exit → Act → World → Prop} (x y : Operand) (ho : o.op = .store 68 x y)
    (b : Nat) (hx : a.eval x = .pointer (some ⟨b, 0, none⟩)) (z : Nd) (hy : a.eval y = .agg z.arr) (cs : Array Value) (hB : Bx w b cs) (hc : cs.size = 16)
    (h : ∀ W, Bx W b z.arr → Only b w W → K (a.put o.dst undef) W) : Oper.wp Try.prog o a w K Q := by
  have ht : w.there b 0 z.arr.size := fun j hj => by
    rw [Nat.zero_add]
    rw [Nd.arr_size] at hj
    refine ⟨?_, hB.free j⟩
    rw [hB.cell j, Array.getElem?_eq_getElem (by omega)]; rfl
  unfold Oper.wp execOp
  simp only [ho, hx, hy, Sem.run_bind, run_storeAt_mid (P := Try.prog) w b 0 68 z.arr ht (by rw [Nd.arr_size]; kernel_rfl) (by rw [Array.all_eq_true']; exact fun v hv => z.cells_one v (by rw [← Nd.arr_list]; exact hv.val)), Sem.run_pure, Result.andThen_ok]
  exact h _ (hB.stored (by rw [hc]; rfl)) (setCells_only b _ 0 w w (Only.refl b w))

/-- The tree of two rows. -/
def GoodJ (l : Row) (ns' : List Nd) (z : Int) : Prop := ∃ s, Rep ns' s ∧ s.ref = z ∧ s.row = l ∧ Hp s

theorem goodJ_left {ns' ns'' : List Nd} {r : Int} {l u1 u : T} {k v : Int} {z5 z : Int} (hS : Srt ((T.node r l k v u1).row ++ u.row)) (hh : Hp (.node r l k v u1)) (hu : ∀ x ∈ u.row, Bef k x.1) (hz : u1.size + u.size ≤ 200) (hg : GoodJ (u1.row ++ u.row) ns' z5) (hK : Kid1 ns' z5 l k v u1 ns'' z) : GoodJ ((T.node r l k v u1).row ++ u.row) ns'' z := by
  obtain ⟨s, q1, q2, q3, q4⟩ := hg
  have hsz : s.size ≤ 400 := by
    rw [← T.row_length, q3, List.length_append, T.row_length, T.row_length]; omega
  refine ⟨.node z l k v s, hK s q1 q2 hsz, rfl, by simp [T.row, q3], ⟨hh.1, fun x hx => ?_, hh.2.2.1, q4⟩⟩
  rw [q3] at hx
  rcases List.mem_append.1 hx with hx | hx
  · exact hh.2.1 x hx
  · exact hu x hx
theorem goodJ_right {ns' ns'' : List Nd} {r : Int} {t l u1 : T} {k v : Int} {z5 z : Int} (hh : Hp (.node r l k v u1)) (hu : ∀ x ∈ t.row, Bef k x.1) (hz : t.size + l.size ≤ 200) (hg : GoodJ (t.row ++ l.row) ns' z5) (hK : Kid0 ns' z5 l k v u1 ns'' z) : GoodJ (t.row ++ (T.node r l k v u1).row) ns'' z := by
  obtain ⟨s, q1, q2, q3, q4⟩ := hg
  have hsz : s.size ≤ 400 := by
    rw [← T.row_length, q3, List.length_append, T.row_length, T.row_length]; omega
  refine ⟨.node z s k v u1, hK s q1 q2 hsz, rfl, by simp [T.row, q3], ⟨fun x hx => ?_, hh.2.1, q4, hh.2.2.2⟩⟩
  rw [q3] at hx
  rcases List.mem_append.1 hx with hx | hx
  · exact hu x hx
  · exact hh.1 x hx

end Go.Proofs.Ytfoifcbaadnigaa

/-
  Contract: the closure of Del.
-/
set_option linter.unusedVariables false
set_option linter.unusedSimpArgs false
namespace Go.Proofs.Ytfoifcbaadnigaa
open Go.RowKit

/-- The map in which a key has no value. -/
def GoodD (s : T) (key : Int) (ns' : List Nd) (z : Int) : Prop := ∃ t, Rep ns' t ∧ t.ref = z ∧ t.row = delR s.row key ∧ Hp t
/-- What the closure's variables hold. -/
structure DelV (W : World) (b bg bm : Nat) (gone : Int) : Prop where
  g : Bx W bg #[.int .u64 gone]
  m : Bx W bm #[.pointer (some ⟨b, 0, none⟩)]
  ng : bg ≠ b
  nm : bm ≠ b
theorem DelV.to {W W' : World} {b bg bm : Nat} {gone : Int} (h : DelV W b bg bm gone) (hx : Ext W W') : DelV W' b bg bm gone := ⟨h.g.to hx, h.m.to hx, h.ng, h.nm⟩
theorem DelV.only {W W' : World} {b bg bm : Nat} {gone : Int} (h : DelV W b bg bm gone) (ho : Only b W W') : DelV W' b bg bm gone := ⟨ho.bx h.g h.ng, ho.bx h.m h.nm, h.ng, h.nm⟩
theorem rep_sub {ns : List Nd} {key : Int} : ∀ {t : T}, Rep ns t → Rep ns (t.sub key)
  | .nil, _ => trivial
  | .node r l k v u, h => by
    simp only [T.sub]
    split
    · exact h
    · split
      · exact rep_sub h.2.1
      · exact rep_sub h.2.2

/-- What the closure tells. -/
def DelCP (b : Nat) (ns : List Nd) (fs : List Int) (err : Int) (s q : T) (key : Int) (w : World) (e : Ending) (w' : World) : Prop :=
  (s.ref = q.ref ∧ COut b ns fs err (s.size - 1) (GoodD s key) w e w') ∨ (¬ s.ref = q.ref ∧ e = .returned (.tuple #[.int .u64 0, .bool false]) ∧ Ext w w')

end Go.Proofs.Ytfoifcbaadnigaa

/-
  Contract: a map whose path towards a key is made anew, with Del's closure (copied).
-/
set_option linter.unusedVariables false
set_option linter.unusedSimpArgs false
namespace Go.Proofs.Ytfoifcbaadnigaa
open Go.RowKit

theorem sub_pos {t q : T} {key : Int} (h : t.sub key = q) (hq : q ≠ .nil) : 1 ≤ t.size := by
  cases t with
  | nil => exact absurd h (fun e => hq (by rw [← e]; rfl))
  | node r l k v u => simp only [T.size]; omega

theorem goodD_left {ns' ns'' : List Nd} {r : Int} {l : T} {k v' : Int} {u : T} {key z' z : Int} (hS : Srt (T.node r l k v' u).row) (hH : Hp (.node r l k v' u)) (hz : l.size + u.size ≤ 200) (hk : key < k) (hg : GoodD l key ns' z') (hK : Kid0 ns' z' l k v' u ns'' z) : GoodD (.node r l k v' u) key ns'' z := by
  obtain ⟨t, h1, h2, h3, h4⟩ := hg
  refine ⟨.node z t k v' u, hK t h1 h2 ?_, rfl, ?_, ⟨fun x hx => hH.1 x (mem_delR (h3 ▸ hx)), hH.2.1, h4, hH.2.2.2⟩⟩
  · rw [← T.row_length, h3]
    have : (delR l.row key).length ≤ l.row.length := List.length_filter_le _ _
    rw [T.row_length] at this
    omega
  · simp only [T.row]
    rw [del_left hS hk, h3]
theorem goodD_right {ns' ns'' : List Nd} {r : Int} {l : T} {k v' : Int} {u : T} {key z' z : Int} (hS : Srt (T.node r l k v' u).row) (hH : Hp (.node r l k v' u)) (hz : l.size + u.size ≤ 200) (hk : k < key) (hg : GoodD u key ns' z') (hK : Kid1 ns' z' l k v' u ns'' z) : GoodD (.node r l k v' u) key ns'' z := by
  obtain ⟨t, h1, h2, h3, h4⟩ := hg
  refine ⟨.node z l k v' t, hK t h1 h2 ?_, rfl, ?_, ⟨hH.1, fun x hx => hH.2.1 x (mem_delR (h3 ▸ hx)), hH.2.2.1, h4⟩⟩
  · rw [← T.row_length, h3]
    have : (delR u.row key).length ≤ u.row.length := List.length_filter_le _ _
    rw [T.row_length] at this
    omega
  · simp only [T.row]
    rw [del_right hS hk, h3]

end Go.Proofs.Ytfoifcbaadnigaa

/-
  Contracts: Del of package treap.
-/
set_option linter.unusedVariables false
set_option linter.unusedSimpArgs false
namespace Go.Proofs.Ytfoifcbaadnigaa
open Go.RowKit

end Go.Proofs.Ytfoifcbaadnigaa

/-
  Contract: Split of package treap.
-/
set_option linter.unusedVariables false
set_option linter.unusedSimpArgs false
namespace Go.Proofs.Ytfoifcbaadnigaa
open Go.RowKit

/-- What Split answers. -/
def ResS (ns : List Nd) (fs : List Int) (c : Nat) (l1 l2 : Row) (w : World) (e : Ending) (w' : World) : Prop :=
  ((e = .returned (.tuple #[.agg #[.slice none 0 0, .slice none 0 0], .int .u64 0, .int .u64 0, .int .i64 2]) ∧ fs.length < c) ∨
    ∃ (A : Option Addr) (n c' : Nat) (B : Option Addr) (m d : Nat) (ns' : List Nd) (fs' : List Int) (z1 z2 : Int), e = .returned (.tuple #[.agg #[.slice A n c', .slice B m d], .int .u64 z1, .int .u64 z2, .int .i64 0]) ∧ Ar w' A n B m ns' fs' ∧ ArMay ns' fs' ∧ Gr ns fs ns' fs' c ∧ U z1 ∧ U z2 ∧ IsP ns' z1 l1 ∧ IsP ns' z2 l2) ∧ Ext w w'

end Go.Proofs.Ytfoifcbaadnigaa

/-
  Contracts: Join of package treap.
-/
set_option linter.unusedVariables false
set_option linter.unusedSimpArgs false
namespace Go.Proofs.Ytfoifcbaadnigaa
open Go.RowKit

end Go.Proofs.Ytfoifcbaadnigaa

/-
  Contract: Get of package treap.
-/
set_option linter.unusedVariables false
set_option linter.unusedSimpArgs false
namespace Go.Proofs.Ytfoifcbaadnigaa
open Go.RowKit

/-- A key's value in a tree, and the error. -/
def getS : T → Int × Int
  | .nil => (0, 3)
  | .node _ _ _ v _ => (v, 0)
def getT (t : T) (key : Int) : Int × Int := getS (t.sub key)

end Go.Proofs.Ytfoifcbaadnigaa

/-
  Contract: a key that is put is got (alive of the statements of layer 6).
-/
set_option linter.unusedVariables false
set_option linter.unusedSimpArgs false
namespace Go.Proofs.Ytfoifcbaadnigaa
open Go.RowKit

theorem mp_nil (ns : List Nd) : Mp ns .nil := ⟨trivial, by simp [Srt, T.row], trivial, Nat.zero_le _⟩
theorem isP_mp {ns : List Nd} {z : Int} {l : Row} (h : IsP ns z l) (hs : Srt l) (hl : l.length ≤ 200) : ∃ t, Mp ns t ∧ t.ref = z ∧ t.row = l := by
  obtain ⟨t, h1, h2, h3, h4⟩ := h
  exact ⟨t, ⟨h1, by rw [h3]; exact hs, h4, by rw [← T.row_length, h3]; exact hl⟩, h2, h3⟩
theorem getT_row {t : T} {key v : Int} (hs : Srt t.row) (h : (key, v) ∈ t.row) : getT t key = (v, 0) := by
  rcases sub_is hs key with ⟨_, hn⟩ | ⟨r, l, v', u, e, hm⟩
  · exact absurd ⟨v, h⟩ hn
  · have : v' = v := by
      obtain ⟨i, hi⟩ := List.getElem?_of_mem h
      obtain ⟨j, hj⟩ := List.getElem?_of_mem hm
      by_cases e : i = j
      · subst e
        rw [hi] at hj
        injection hj with hj
        injection hj with _ hj
        exact hj.symm
      · exfalso
        have hp := List.pairwise_iff_getElem.1 hs
        obtain ⟨i1, i2⟩ := List.getElem?_eq_some_iff.1 hi
        obtain ⟨j1, j2⟩ := List.getElem?_eq_some_iff.1 hj
        rcases Nat.lt_or_gt_of_ne e with h' | h'
        · have := hp i j i1 j1 h'
          rw [i2, j2] at this
          simp at this
        · have := hp j i j1 i1 h'
          rw [i2, j2] at this
          simp at this
    subst this
    unfold getT
    rw [e]
    rfl
theorem getT_none {t : T} {key : Int} (hs : Srt t.row) (h : ¬ HasK t.row key) : getT t key = (0, 3) := by
  rcases sub_is hs key with ⟨e, _⟩ | ⟨r, l, v', u, e, hm⟩
  · unfold getT
    rw [e]
    rfl
  · exact absurd ⟨v', hm⟩ h

end Go.Proofs.Ytfoifcbaadnigaa

/-
  What the laying of a row makes of nodes.
-/
set_option linter.unusedVariables false
set_option linter.unusedSimpArgs false
namespace Go.Proofs.Ytfoifcbaadnigaa
open Go.RowKit

/-- From a place on a row lies as a map; all other nodes are as they were. -/
structure Laid (ns ns' : List Nd) (p : Nat) (l : Row) (z : Int) : Prop where
  len : ns'.length = ns.length
  out : ∀ i, (i < p ∨ p + l.length ≤ i) → ns'[i]? = ns[i]?
  nd : ∀ i, p ≤ i → i < p + l.length → ∃ k v s r0 r1, ns'[i]? = some (trNd 0 k v s r0 r1) ∧ RefMay r0 ∧ RefMay r1 ∧ U r0 ∧ U r1
  tree : ∃ t, t.row = l ∧ Hp t ∧ t.ref = z ∧ ∀ ns'' : List Nd, (∀ i, p ≤ i → i < p + l.length → ns''[i]? = ns'[i]?) → Rep ns'' t
  may : RefMay z
  u : U z

theorem laid_nil (ns : List Nd) (p : Nat) : Laid ns ns p [] 0 :=
  ⟨rfl, fun _ _ => rfl, fun i h1 h2 => by simp at h2; omega, ⟨.nil, rfl, trivial, rfl, fun _ _ => trivial⟩, .inl rfl, U.zero⟩

theorem laid_node {ns ns1 ns2 : List Nd} {p : Nat} {a b : Row} {k v z1 z2 : Int} (h1 : Laid ns ns1 (p + 1) a z1) (h2 : Laid ns1 ns2 (p + 1 + a.length) b z2) (ha : ∀ y ∈ a, Bef k y.1) (hb : ∀ y ∈ b, Bef k y.1) (hp : p + (a.length + b.length + 1) ≤ ns.length) (hn : ns.length ≤ 512) (m : Nat) (hm : m = a.length + b.length + 1) :
    Laid ns (ns2.set p (trNd 0 k v (m : Int) z1 z2)) p (a ++ (k, v) :: b) ((p + 1 : Nat) : Int) := by
  subst hm
  have hl : (a ++ (k, v) :: b).length = a.length + b.length + 1 := by simp; omega
  have e2 : ns2.length = ns.length := h2.len.trans h1.len
  have hz : ((p + 1 : Nat) : Int) = (p : Int) + 1 := by omega
  have hnode : Node ((p + 1 : Nat) : Int) := ⟨by omega, by omega, by omega⟩
  obtain ⟨t1, a1, a2, a3, a4⟩ := h1.tree
  obtain ⟨t2, b1, b2, b3, b4⟩ := h2.tree
  have hget : ∀ i, i ≠ p → (ns2.set p (trNd 0 k v ((a.length + b.length + 1 : Nat) : Int) z1 z2))[i]? = ns2[i]? := fun i hi => List.getElem?_set_ne (Ne.symm hi)
  have hgetp : (ns2.set p (trNd 0 k v ((a.length + b.length + 1 : Nat) : Int) z1 z2))[p]? = some (trNd 0 k v ((a.length + b.length + 1 : Nat) : Int) z1 z2) := List.getElem?_set_self (by omega)
  refine ⟨by rw [List.length_set]; exact e2, fun i hi => ?_, fun i g1 g2 => ?_, ⟨.node ((p + 1 : Nat) : Int) t1 k v t2, by simp [T.row, a1, b1], ⟨by rw [a1]; exact ha, by rw [b1]; exact hb, a2, b2⟩, rfl, fun ns'' hs => ?_⟩, .inr hnode, ⟨by omega, by omega⟩⟩
  · rw [hl] at hi
    rw [hget i (by omega), h2.out i (by omega), h1.out i (by omega)]
  · rw [hl] at g2
    by_cases e : i = p
    · subst e
      exact ⟨_, _, _, _, _, hgetp, h1.may, h2.may, h1.u, h2.u⟩
    · rw [hget i e]
      by_cases e' : i < p + 1 + a.length
      · rw [h2.out i (by omega)]
        exact h1.nd i (by omega) (by omega)
      · exact h2.nd i (by omega) (by omega)
  · rw [hl] at hs
    refine ⟨⟨p, 0, hnode, by omega, ?_, by simp [trNd], ?_⟩, a4 ns'' fun i g1 g2 => ?_, b4 ns'' fun i g1 g2 => ?_⟩
    · rw [hs p (by omega) (by omega), hgetp, a3, b3, ← T.row_length, ← T.row_length, a1, b1]
    · simp [trNd]; omega
    · rw [hs i (by omega) (by omega), hget i (by omega), h2.out i (by omega)]
    · rw [hs i (by omega) (by omega), hget i (by omega)]

/-- Places from the last one down to a number. -/
def downTo (n m : Nat) : List Int := (List.range (n - m)).map fun (i : Nat) => (n : Int) - 1 - i
theorem downTo_self (n : Nat) : downTo n n = [] := by simp [downTo]
theorem downTo_len (n m : Nat) : (downTo n m).length = n - m := by simp [downTo]
theorem downTo_succ {n m : Nat} (h : m < n) : downTo n (m + 1) ++ [(m : Int)] = downTo n m := by
  unfold downTo
  rw [show n - m = (n - (m + 1)) + 1 by omega, List.range_succ, List.map_append]
  congr 1
  simp
  omega
theorem laid_may {n : Nat} {ns' : List Nd} {l : Row} {z : Int} (h : Laid (List.replicate n (bare 0)) ns' 0 l z) (h1 : 1 ≤ n) (h2 : n ≤ 512) (hl : l.length ≤ n) : ArMay ns' (downTo n l.length) := by
  have hlen : ns'.length = n := by rw [h.len]; simp
  have hcase : ∀ (i : Nat) (x : Nd), ns'[i]? = some x → (i < l.length ∧ ∃ k v s r0 r1, x = trNd 0 k v s r0 r1 ∧ RefMay r0 ∧ RefMay r1) ∨ (l.length ≤ i ∧ i < n ∧ x = bare 0) := by
    intro i x hx
    have hi : i < n := by have := (List.getElem?_eq_some_iff.1 hx).1; omega
    by_cases e : i < l.length
    · obtain ⟨k, v, s, r0, r1, e1, q0, q1, _⟩ := h.nd i (by omega) (by omega)
      rw [hx] at e1
      injection e1 with e1
      exact .inl ⟨e, k, v, s, r0, r1, e1, q0, q1⟩
    · rw [h.out i (by omega)] at hx
      exact .inr ⟨by omega, hi, List.eq_of_mem_replicate (List.mem_of_getElem? hx)⟩
  refine ⟨by omega, by omega, fun x hx => ?_, fun y hy => ?_, ?_, fun i x hx => ?_⟩
  · obtain ⟨i, hi⟩ := List.getElem?_of_mem hx
    rcases hcase i x hi with ⟨_, k, v, s, r0, r1, rfl, q0, q1⟩ | ⟨_, _, rfl⟩
    · exact ⟨⟨by simp [trNd], by simp [trNd]⟩, .inr ⟨by simp [trNd], (makes_tr q0 q1).2.2⟩⟩
    · exact bare_fits ⟨by omega, by omega⟩
  · simp only [downTo, List.mem_map, List.mem_range] at hy
    obtain ⟨i, hi, rfl⟩ := hy
    rw [hlen]
    exact ⟨by omega, by omega⟩
  · unfold downTo
    rw [List.nodup_iff_pairwise_ne, List.pairwise_map]
    exact List.pairwise_lt_range.imp (fun {a b} hab => by omega)
  · simp only [downTo, List.mem_map, List.mem_range]
    rcases hcase i x hx with ⟨hi, k, v, s, r0, r1, rfl, _⟩ | ⟨hi, hi2, rfl⟩
    · constructor
      · rintro ⟨j, hj, e⟩; omega
      · intro e; simp [trNd] at e
    · exact ⟨fun _ => rfl, fun _ => ⟨n - 1 - i, by omega, by omega⟩⟩
theorem laid_ok {n : Nat} {ns' : List Nd} {l : Row} {z : Int} (h : Laid (List.replicate n (bare 0)) ns' 0 l z) : ∀ x ∈ ns', x.Ok := by
  intro x hx
  obtain ⟨i, hi⟩ := List.getElem?_of_mem hx
  by_cases e : i < l.length
  · obtain ⟨k, v, s, r0, r1, e1, _, _, q0, q1⟩ := h.nd i (by omega) (by omega)
    rw [hi] at e1
    injection e1 with e1
    rw [e1]
    exact ok_tr q0 q1
  · rw [h.out i (by omega)] at hi
    rw [List.eq_of_mem_replicate (List.mem_of_getElem? hi)]
    intro r hr
    simp [bare, Nd.kids] at hr
    subst hr
    exact ⟨by omega, by omega⟩
theorem laid_map {n : Nat} {ns' : List Nd} {l : Row} {z : Int} (h : Laid (List.replicate n (bare 0)) ns' 0 l z) (hs : Srt l) (hl : l.length ≤ 200) : ∃ t, Mp ns' t ∧ t.ref = z ∧ t.row = l := by
  obtain ⟨t, h1, h2, h3, h4⟩ := h.tree
  exact ⟨t, ⟨h4 ns' (fun _ _ _ => rfl), by rw [h1]; exact hs, h2, by rw [← T.row_length, h1]; exact hl⟩, h3, h1⟩

end Go.Proofs.Ytfoifcbaadnigaa
