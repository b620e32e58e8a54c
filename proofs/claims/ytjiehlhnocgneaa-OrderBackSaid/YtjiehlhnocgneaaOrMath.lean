/-
  The mathematics of places in a map: the way down a tree to a border.
-/
import Derived.Test.YtjiehlhnocgneaaTrFind
import Derived.Test.YtjiehlhnocgneaaRfTop
set_option linter.unusedVariables false
set_option linter.unusedSimpArgs false
namespace Go.Proofs.Ytjiehlhnocgneaa
open Go.RowKit

/-- Down a tree to a border: its place, and the nodes ahead of it and behind it. -/
def dn (f : Int → Int → Bool) : T → Nat → Int → Int → Nat × Int × Int
  | .nil, p, x, y => (p, x, y)
  | .node r l k v u, p, x, y => if f k ((p + l.size : Nat) : Int) = true then dn f l p x r else dn f u (p + l.size + 1) r y
/-- A reference is that of a key's node. -/
def T.At : T → Int → Int × Int → Prop
  | .nil, _, _ => False
  | .node r l k v u, z, a => (z = r ∧ a = (k, v)) ∨ l.At z a ∨ u.At z a
theorem at_node {ns : List Nd} (hok : ∀ x ∈ ns, x.Ok) {t : T} : Rep ns t → U t.ref → ∀ {z : Int} {a : Int × Int}, t.At z a → z ≠ 0 ∧ U z ∧ (nodeF ns z).n = a.1 ∧ (nodeF ns z).v = a.2 := by
  induction t with
  | nil => intro _ _ z a h; exact absurd h (by simp [T.At])
  | node r l k v u ih1 ih2 =>
    intro hR hU z a h
    have hk := hR.kids hok
    rcases h with ⟨rfl, rfl⟩ | h | h
    · obtain ⟨g, hn⟩ := hR.node
      rw [hn]
      exact ⟨hR.ref_nz, hU, rfl, rfl⟩
    · exact ih1 hR.2.1 hk.1 h
    · exact ih2 hR.2.2 hk.2 h

def Mono (f : Int → Int → Bool) (p : Nat) (l : Row) : Prop := ∀ (i j : Nat) (a b : Int × Int), i ≤ j → l[i]? = some a → l[j]? = some b → f a.1 ((p + i : Nat) : Int) = true → f b.1 ((p + j : Nat) : Int) = true
theorem Mono.left {f : Int → Int → Bool} {p : Nat} {a b : Row} (h : Mono f p (a ++ b)) : Mono f p a := fun i j x y hij hx hy hf =>
  h i j x y hij (by rw [List.getElem?_append_left (List.getElem?_eq_some_iff.1 hx).1]; exact hx) (by rw [List.getElem?_append_left (List.getElem?_eq_some_iff.1 hy).1]; exact hy) hf
theorem Mono.right {f : Int → Int → Bool} {p : Nat} {a b : Row} (h : Mono f p (a ++ b)) : Mono f (p + a.length) b := fun i j x y hij hx hy hf => by
  have := h (a.length + i) (a.length + j) x y (by omega) (by rw [List.getElem?_append_right (by omega), show a.length + i - a.length = i by omega]; exact hx) (by rw [List.getElem?_append_right (by omega), show a.length + j - a.length = j by omega]; exact hy)
  rw [← Nat.add_assoc, ← Nat.add_assoc] at this
  exact this hf

/-- A border of a row. -/
structure Cut (f : Int → Int → Bool) (p : Nat) (l : Row) (q : Nat) : Prop where
  le : q ≤ l.length
  lt : ∀ (i : Nat) (a : Int × Int), i < q → l[i]? = some a → f a.1 ((p + i : Nat) : Int) = false
  ge : ∀ (i : Nat) (a : Int × Int), q ≤ i → l[i]? = some a → f a.1 ((p + i : Nat) : Int) = true

theorem dn_is (f : Int → Int → Bool) (t : T) : ∀ (p : Nat) (x y : Int), Mono f p t.row → ∃ q, Cut f p t.row q ∧ (dn f t p x y).1 = p + q ∧
    ((q = 0 ∧ (dn f t p x y).2.1 = x) ∨ ∃ a, 0 < q ∧ t.row[q - 1]? = some a ∧ t.At (dn f t p x y).2.1 a) ∧
    ((q = t.row.length ∧ (dn f t p x y).2.2 = y) ∨ ∃ a, t.row[q]? = some a ∧ t.At (dn f t p x y).2.2 a) := by
  induction t with
  | nil =>
    intro p x y _
    exact ⟨0, ⟨by simp [T.row], fun i a h => by omega, fun i a _ h => by simp [T.row] at h⟩, rfl, .inl ⟨rfl, rfl⟩, .inl ⟨rfl, rfl⟩⟩
  | node r l k v u ih1 ih2 =>
    intro p x y hm
    have hll := T.row_length l
    have hmid : (l.row ++ (k, v) :: u.row)[l.size]? = some (k, v) := by rw [← hll]; simp
    simp only [T.row] at hm ⊢
    unfold dn
    by_cases hf : f k ((p + l.size : Nat) : Int) = true
    · rw [if_pos hf]
      obtain ⟨q, hc, h1, h2, h3⟩ := ih1 p x r hm.left
      have hql := hc.le
      refine ⟨q, ⟨by simp; omega, fun i a hi ha => ?_, fun i a hi ha => ?_⟩, h1, ?_, ?_⟩
      · rw [List.getElem?_append_left (by omega)] at ha
        exact hc.lt i a hi ha
      · by_cases e : i < l.row.length
        · rw [List.getElem?_append_left e] at ha
          exact hc.ge i a hi ha
        · exact hm l.size i (k, v) a (by omega) hmid ha hf
      · rcases h2 with h2 | ⟨a, ha, hb, hd⟩
        · exact .inl h2
        · refine .inr ⟨a, ha, ?_, .inr (.inl hd)⟩
          rw [List.getElem?_append_left (by omega)]
          exact hb
      · rcases h3 with ⟨e, h3⟩ | ⟨a, ha, hd⟩
        · refine .inr ⟨(k, v), ?_, .inl ⟨h3, rfl⟩⟩
          rw [e, hll]; exact hmid
        · refine .inr ⟨a, ?_, .inr (.inl hd)⟩
          rw [List.getElem?_append_left (List.getElem?_eq_some_iff.1 ha).1]
          exact ha
    · rw [if_neg hf]
      have hm2 : Mono f (p + l.size + 1) u.row := by
        have := hm
        rw [show l.row ++ (k, v) :: u.row = (l.row ++ [(k, v)]) ++ u.row by simp] at this
        have := this.right
        rw [show (l.row ++ [(k, v)]).length = l.size + 1 by simp [hll]] at this
        exact this
      obtain ⟨q, hc, h1, h2, h3⟩ := ih2 (p + l.size + 1) r y hm2
      have hql := hc.le
      have hget : ∀ i, l.size + 1 ≤ i → (l.row ++ (k, v) :: u.row)[i]? = u.row[i - (l.size + 1)]? := fun i hi => by
        rw [List.getElem?_append_right (by omega), hll]
        rw [show i - l.size = (i - (l.size + 1)) + 1 by omega]
        rfl
      refine ⟨l.size + 1 + q, ⟨by simp; omega, fun i a hi ha => ?_, fun i a hi ha => ?_⟩, by omega, ?_, ?_⟩
      · by_cases e : i < l.size + 1
        · cases hb : f a.1 ((p + i : Nat) : Int) with
          | false => rfl
          | true => exact absurd (hm i l.size a (k, v) (by omega) ha hmid hb) hf
        · rw [hget i (by omega)] at ha
          have := hc.lt (i - (l.size + 1)) a (by omega) ha
          rw [show p + l.size + 1 + (i - (l.size + 1)) = p + i by omega] at this
          exact this
      · rw [hget i (by omega)] at ha
        have := hc.ge (i - (l.size + 1)) a (by omega) ha
        rw [show p + l.size + 1 + (i - (l.size + 1)) = p + i by omega] at this
        exact this
      · right
        rcases h2 with ⟨e, h2⟩ | ⟨a, ha, hb, hd⟩
        · subst e
          exact ⟨(k, v), by omega, hmid, .inl ⟨h2, rfl⟩⟩
        · refine ⟨a, by omega, ?_, .inr (.inr hd)⟩
          rw [hget _ (by omega), show l.size + 1 + q - 1 - (l.size + 1) = q - 1 by omega]
          exact hb
      · rcases h3 with ⟨e, h3⟩ | ⟨a, ha, hd⟩
        · exact .inl ⟨by simp; omega, h3⟩
        · refine .inr ⟨a, ?_, .inr (.inr hd)⟩
          rw [hget _ (by omega), show l.size + 1 + q - (l.size + 1) = q by omega]
          exact ha
theorem dn_place (f : Int → Int → Bool) (t : T) : ∀ (p : Nat) (x y : Int), (dn f t p x y).1 ≤ p + t.size := by
  induction t with
  | nil => intro p x y; exact Nat.le_refl _
  | node r l k v u ih1 ih2 =>
    intro p x y
    unfold dn
    split
    · have := ih1 p x r; simp only [T.size]; omega
    · have := ih2 (p + l.size + 1) r y; simp only [T.size]; omega

/-- A border by a key: those below it. -/
theorem cut_filter {l : Row} {q : Nat} (g : Int × Int → Bool) (hq : q ≤ l.length) (h1 : ∀ (i : Nat) (a : Int × Int), i < q → l[i]? = some a → g a = true) (h2 : ∀ (i : Nat) (a : Int × Int), q ≤ i → l[i]? = some a → g a = false) : l.filter g = l.take q := by
  conv => lhs; rw [← List.take_append_drop q l]
  rw [List.filter_append, List.filter_eq_self.2, List.filter_eq_nil_iff.2, List.append_nil]
  · intro a ha
    obtain ⟨i, hi⟩ := List.getElem?_of_mem ha
    rw [List.getElem?_drop] at hi
    rw [h2 _ a (by omega) hi]
    simp
  · intro a ha
    obtain ⟨i, hi⟩ := List.getElem?_of_mem ha
    rw [List.getElem?_take] at hi
    split at hi
    · exact h1 i a (by omega) hi
    · cases hi
/-- Those up to a key. -/
def upto (l : Row) (k : Int) : Row := l.filter (fun x => x.1 ≤ k)
theorem mono_ge {l : Row} (hs : Srt l) (key : Int) : Mono (fun k _ => decide (key ≤ k)) 0 l := by
  intro i j a b hij ha hb h
  simp only [decide_eq_true_eq] at h ⊢
  rcases Nat.lt_or_eq_of_le hij with h' | rfl
  · have := srt_get hs ha hb h'; omega
  · rw [ha] at hb; injection hb with hb; subst hb; exact h
theorem mono_gt {l : Row} (hs : Srt l) (key : Int) : Mono (fun k _ => decide (key < k)) 0 l := by
  intro i j a b hij ha hb h
  simp only [decide_eq_true_eq] at h ⊢
  rcases Nat.lt_or_eq_of_le hij with h' | rfl
  · have := srt_get hs ha hb h'; omega
  · rw [ha] at hb; injection hb with hb; subst hb; exact h
theorem mono_at (l : Row) (place : Int) : Mono (fun _ p => decide (place ≤ p)) 0 l := by
  intro i j a b hij ha hb h
  simp only [decide_eq_true_eq] at h ⊢
  omega
theorem cut_lo {l : Row} {key : Int} {q : Nat} (h : Cut (fun k _ => decide (key ≤ k)) 0 l q) : lo l key = l.take q :=
  cut_filter _ h.le (fun i a hi ha => by have := h.lt i a hi ha; simp at this ⊢; omega) (fun i a hi ha => by have := h.ge i a hi ha; simp at this ⊢; omega)
theorem cut_upto {l : Row} {key : Int} {q : Nat} (h : Cut (fun k _ => decide (key < k)) 0 l q) : upto l key = l.take q :=
  cut_filter _ h.le (fun i a hi ha => by have := h.lt i a hi ha; simp at this ⊢; omega) (fun i a hi ha => by have := h.ge i a hi ha; simp at this ⊢; omega)
theorem cut_at {l : Row} {place : Int} {q : Nat} (hp : 0 ≤ place) (h : Cut (fun _ p => decide (place ≤ p)) 0 l q) : l[q]? = l[place.toNat]? := by
  by_cases e : place.toNat < l.length
  · obtain ⟨a, ha⟩ : ∃ a, l[place.toNat]? = some a := ⟨_, List.getElem?_eq_getElem e⟩
    have h1 : q ≤ place.toNat := by
      by_cases hq : q ≤ place.toNat
      · exact hq
      · have := h.lt place.toNat a (by omega) ha
        simp at this; omega
    have h2 : place.toNat ≤ q := by
      by_cases hq : place.toNat ≤ q
      · exact hq
      · obtain ⟨b, hb⟩ : ∃ b, l[q]? = some b := ⟨_, List.getElem?_eq_getElem (by omega)⟩
        have := h.ge q b (by omega) hb
        simp at this; omega
    rw [show q = place.toNat by omega]
  · have h1 : l.length ≤ q := by
      by_cases hq : l.length ≤ q
      · exact hq
      · obtain ⟨b, hb⟩ : ∃ b, l[q]? = some b := ⟨_, List.getElem?_eq_getElem (by omega)⟩
        have := h.ge q b (by omega) hb
        simp at this; omega
    rw [List.getElem?_eq_none (show l.length ≤ q from h1), List.getElem?_eq_none (show l.length ≤ place.toNat by omega)]

end Go.Proofs.Ytjiehlhnocgneaa
