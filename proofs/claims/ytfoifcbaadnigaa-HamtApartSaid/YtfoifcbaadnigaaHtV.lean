/-
  Tables in an arena, each told by its row of small keys: the calls' contracts in these words.
-/
import Derived.Test.YtfoifcbaadnigaaArV
import Derived.Test.YtfoifcbaadnigaaHtPut
import Derived.Test.YtfoifcbaadnigaaHtDel
import Derived.Test.YtfoifcbaadnigaaHtIs
set_option linter.unusedVariables false
set_option linter.unusedSimpArgs false
namespace Go.Proofs.Ytfoifcbaadnigaa
open Go.RowKit

/-! ### Small keys have unlike hashes -/
def hN (i : Nat) : Nat := Mx.mix (i + 7) % 1048576
theorem hN_is (i : Nat) (h : i < 100) : hsI (i : Int) = (hN i : Nat) := by
  unfold hsI rkI mixI hN
  rw [show IntKind.u64.wrap (i : Int) = (i : Int) by rw [IntKind.wrap_u64]; omega, show IntKind.u64.wrap ((i : Int) + 7) = (i : Int) + 7 by rw [IntKind.wrap_u64]; omega]
  rw [show ((i : Int) + 7).toNat = i + 7 by omega]
  omega
theorem hN_apart : (List.range 60).all (fun i => (List.range i).all (fun j => hN j != hN i)) = true := by kernel_rfl
theorem hs_apart {i j : Int} (hi : 0 ≤ i ∧ i < 60) (hj : 0 ≤ j ∧ j < 60) (h : hsI i = hsI j) : i = j := by
  obtain ⟨a, rfl⟩ := Int.eq_ofNat_of_zero_le hi.1
  obtain ⟨b, rfl⟩ := Int.eq_ofNat_of_zero_le hj.1
  have ha : a < 60 := by omega
  have hb : b < 60 := by omega
  rw [hN_is a (by omega), hN_is b (by omega)] at h
  have key : ∀ a b : Nat, a < 60 → b < a → hN b ≠ hN a := fun a b ha hb => by
    have := List.all_eq_true.1 (List.all_eq_true.1 hN_apart a (List.mem_range.2 ha)) b (List.mem_range.2 hb)
    simpa using this
  rcases Nat.lt_trichotomy a b with hl | hl | hl
  · exact absurd (by exact_mod_cast h) (key b a hb hl)
  · rw [hl]
  · exact absurd (by exact_mod_cast h.symm) (key a b ha hl)

/-- Rows of small keys, in order. -/
def Sm (l : Row) : Prop := Srt l ∧ ∀ x ∈ l, 0 ≤ x.1 ∧ x.1 < 60
theorem Sm.nil : Sm [] := ⟨by simp [Srt], fun x hx => by cases hx⟩
theorem Sm.put {l : Row} (h : Sm l) {k : Int} (hk : 0 ≤ k ∧ k < 60) (v : Int) : Sm (putR l k v) :=
  ⟨h.1.putR k v, fun x hx => by rcases mem_put.1 hx with rfl | ⟨hx, _⟩; exact hk; exact h.2 x hx⟩
theorem Sm.del {l : Row} (h : Sm l) (k : Int) : Sm (delR l k) := ⟨h.1.filter _, fun x hx => h.2 x (List.mem_filter.1 hx).1⟩
theorem Sm.ne {l : Row} (h : Sm l) : l.Pairwise (fun a b => hsI a.1 ≠ hsI b.1) := by
  have h1 : l.Pairwise (fun a b => a.1 < b.1) := h.1
  refine List.Pairwise.imp_of_mem ?_ h1
  intro a b ha hb hab e
  have := hs_apart (h.2 a ha) (h.2 b hb) e
  omega
theorem Sm.le {l : Row} (h : Sm l) : l.length ≤ 60 := by
  have h1 : ∀ (l : Row) (b : Int), Srt l → (∀ x ∈ l, b ≤ x.1 ∧ x.1 < 60) → (l.length : Int) ≤ 60 - b ∨ l = [] := by
    intro l
    induction l with
    | nil => intro b _ _; exact .inr rfl
    | cons a l ih =>
      intro b hs hb
      left
      have ha := hb a (by simp)
      obtain ⟨s1, s2⟩ := List.pairwise_cons.1 hs
      rcases ih (a.1 + 1) s2 (fun x hx => ⟨by have := s1 x hx; omega, (hb x (by simp [hx])).2⟩) with h | h
      · simp; omega
      · subst h; simp; omega
  rcases h1 l 0 h.1 h.2 with h | h
  · omega
  · rw [h]; simp
theorem Srt.nodup {l : Row} (h : Srt l) : l.Nodup := by
  have h1 : l.Pairwise (fun a b => a.1 < b.1) := h
  exact h1.imp (fun {a b} hab e => by rw [e] at hab; omega)
theorem put_perm {l : Row} (h : Srt l) (k v : Int) : (putR l k v).Perm (delR l k ++ [(k, v)]) := by
  refine (List.perm_ext_iff_of_nodup (h.putR k v).nodup ?_).2 fun x => ?_
  · refine List.nodup_append.2 ⟨(h.filter _).nodup, by simp, fun a ha b hb e => ?_⟩
    rw [List.mem_singleton.1 hb] at e
    rw [e] at ha
    have := (List.mem_filter.1 ha).2
    simp at this
  · rw [mem_put, List.mem_append, List.mem_singleton]
    unfold delR
    rw [List.mem_filter]
    simp only [ne_eq, decide_eq_true_eq]
    exact or_comm
theorem Uq.ofPerm {l : Row} {ls : List Lf} (h : Srt l) (p : (ls.map Lf.it).Perm l) (ne : l.Pairwise (fun a b => hsI a.1 ≠ hsI b.1)) : ls.Pairwise (fun a b => hsI a.k ≠ hsI b.k) := by
  have := p.symm.pairwise ne (fun {a b} (e : hsI a.1 ≠ hsI b.1) => e.symm)
  rw [List.pairwise_map] at this
  exact this
theorem offK_row (key : Int) (ls : List Lf) : (offK key ls).map Lf.it = delR (ls.map Lf.it) key := by
  induction ls with
  | nil => rfl
  | cons x ls ih =>
    unfold offK delR at *
    by_cases h : x.k = key
    · simp [Lf.it, h] at ih ⊢; exact ih
    · simp [Lf.it, h] at ih ⊢; exact ih
theorem hasL_row (key : Int) (ls : List Lf) : hasL key ls = true ↔ HasK (ls.map Lf.it) key := by
  unfold hasL HasK
  rw [List.any_eq_true]
  constructor
  · rintro ⟨y, hy, e⟩
    exact ⟨y.v, List.mem_map.2 ⟨y, hy, by simp [Lf.it] at e ⊢; exact e⟩⟩
  · rintro ⟨v, hv⟩
    obtain ⟨y, hy, e⟩ := List.mem_map.1 hv
    refine ⟨y, hy, ?_⟩
    have : y.k = key := congrArg Prod.fst e
    simp [this]
theorem HasK.perm {l m : Row} (p : l.Perm m) (k : Int) : HasK l k ↔ HasK m k := ⟨fun ⟨v, h⟩ => ⟨v, p.mem_iff.1 h⟩, fun ⟨v, h⟩ => ⟨v, p.mem_iff.2 h⟩⟩

/-- A reference is the table of a row, in an arena's nodes. -/
def TabV (ns : List Nd) (z : Int) (l : Row) : Prop := ∃ t, Tr ns 0 t ∧ t.ref = z ∧ t.row.Perm l
theorem TabV.grow {ns ns' : List Nd} {fs fs' : List Int} {c : Nat} {z : Int} {l : Row} (h : TabV ns z l) (hg : Gr ns fs ns' fs' c) : TabV ns' z l := by
  obtain ⟨t, h1, h2⟩ := h
  exact ⟨t, h1.mono hg.keep, h2⟩
theorem TabV.isH {ns : List Nd} {z : Int} {l : Row} (h : TabV ns z l) : IsH ns 0 z l := by
  obtain ⟨t, h1, h2, h3⟩ := h
  exact ⟨t, h1.rp, h2, h1.sh, h3⟩
theorem TabV.u {ns : List Nd} {z : Int} {l : Row} (h : TabV ns z l) : U z := by
  obtain ⟨t, h1, h2, h3⟩ := h
  rw [← h2]; exact h1.u
theorem TabV.nil (ns : List Nd) : TabV ns 0 [] := ⟨.nil, ⟨trivial, trivial, U.zero⟩, rfl, List.Perm.refl _⟩
/-- What a call that makes a table answers, where enough nodes are free. -/
def MadeT (ns : List Nd) (fs : List Int) (l : Row) (w : World) (e : Ending) (w' : World) : Prop :=
  ∃ (A : Option Addr) (n c : Nat) (B : Option Addr) (m d : Nat) (ns' : List Nd) (fs' : List Int) (z : Int), e = .returned (.tuple #[.agg #[.slice A n c, .slice B m d], .int .u64 z, .int .i64 0]) ∧ Av w' A n B m ns' fs' ∧ Gr ns fs ns' fs' 11 ∧ TabV ns' z l ∧ Ext w w'
section
variable {W : World} {A B : Option Addr} {n m c d : Nat} {ns : List Nd} {fs : List Int} {z : Int} {l : Row}
theorem tv_put (h : Av W A n B m ns fs) (hT : TabV ns z l) (hl : Sm l) (key v : Int) (hk : 0 ≤ key ∧ key < 60) (hf : 11 ≤ fs.length) : ∀ W', Ext W W' →
    Calls Try.prog 11 #[.agg #[.slice A n c, .slice B m d], .int .u64 z, .int .i64 key, .int .i64 v] W' (MadeT ns fs (putR l key v) W') := by
  intro W' hx
  obtain ⟨t, h1, rfl, h3⟩ := hT
  have hle := hl.le
  have hsz : t.size = l.length := by rw [← HT.row_length]; exact h3.length_eq
  refine (htPut_is A B n m c d ns fs t key v W' (h.to hx).ar h.n1 h.m1 h.may ⟨h1, Uq.ofPerm hl.1 h3 hl.ne, fun y hy e => ?_, by omega, by omega, by omega⟩ hf).mono ?_
  · have hy' : y.it ∈ l := h3.mem_iff.1 (List.mem_map.2 ⟨y, hy, rfl⟩)
    exact hs_apart (hl.2 _ hy') hk e
  · rintro e w3 ⟨A', n', c', B', m', d', ns', fs', z', t', rfl, hA, hmay, hG, ht, hz, hp, hx3⟩
    refine ⟨A', n', c', B', m', d', ns', fs', z', rfl, ⟨hA, hmay⟩, hG, ⟨t', ht, hz, hp.trans ?_⟩, hx3⟩
    rw [offK_row]
    exact ((h3.filter _).append (List.Perm.refl _)).trans (put_perm hl.1 key v).symm
theorem tv_del (h : Av W A n B m ns fs) (hT : TabV ns z l) (hl : Sm l) (key : Int) (hk : 0 ≤ key ∧ key < 60) (hK : HasK l key) (hf : 11 ≤ fs.length) : ∀ W', Ext W W' →
    Calls Try.prog 8 #[.agg #[.slice A n c, .slice B m d], .int .u64 z, .int .i64 key] W' (MadeT ns fs (delR l key) W') := by
  intro W' hx
  obtain ⟨t, h1, rfl, h3⟩ := hT
  have hle := hl.le
  have hsz : t.size = l.length := by rw [← HT.row_length]; exact h3.length_eq
  have hsz' : t.lvs.length = l.length := hsz
  refine (htDel_is A B n m c d ns fs t key W' (h.to hx).ar h.n1 h.m1 h.may ⟨h1, by simp, fun y hy => (by cases hy), Uq.ofPerm hl.1 h3 hl.ne, fun y hy e => ?_, fun y _ => (by rw [pas_zero, pas_zero]), (by simp; omega), ?_⟩ (by omega) ?_ hf).mono ?_
  · have hy' : y.it ∈ l := h3.mem_iff.1 (List.mem_map.2 ⟨y, hy, rfl⟩)
    exact hs_apart (hl.2 _ hy') hk e
  · have := offK_le key t.lvs
    simp [newLs]; omega
  · exact (hasL_row key t.lvs).2 ((HasK.perm h3 key).2 hK)
  · rintro e w3 ⟨A', n', c', B', m', d', ns', fs', z', t', rfl, hA, hmay, hG, ht, hz, hp, hx3⟩
    refine ⟨A', n', c', B', m', d', ns', fs', z', rfl, ⟨hA, hmay⟩, hG, ⟨t', ht, hz, (hp.map Lf.it).trans ?_⟩, hx3⟩
    simp only [newLs, List.append_nil]
    rw [offK_row]
    exact h3.filter _
theorem tv_delnone (h : Av W A n B m ns fs) (hT : TabV ns z l) (hl : Sm l) (key : Int) (hK : ¬ HasK l key) : ∀ W', Ext W W' →
    Calls Try.prog 8 #[.agg #[.slice A n c, .slice B m d], .int .u64 z, .int .i64 key] W' (ErrH 3 W') := by
  intro W' hx
  obtain ⟨t, h1, rfl, h3⟩ := hT
  have hle := hl.le
  have hsz : t.size = l.length := by rw [← HT.row_length]; exact h3.length_eq
  refine htDel_none A B n m c d ns fs t key W' (h.to hx).ar h.n1 h.m1 h.may h1 (by omega) ?_
  cases hh : hasL key t.lvs
  · rfl
  · exact absurd ((HasK.perm h3 key).1 ((hasL_row key t.lvs).1 hh)) hK
theorem tv_size (h : Av W A n B m ns fs) (hT : TabV ns z l) (hl : l.length ≤ 200) : ∀ W', Ext W W' →
    Calls Try.prog 18 #[.agg #[.slice A n c, .slice B m d], .int .u64 z] W' fun e w' => e = .returned (.tuple #[.int .i64 l.length, .int .i64 0]) ∧ Ext W' w' := by
  intro W' hx
  obtain ⟨t, h1, rfl, h3⟩ := hT
  have hsz : t.size = l.length := by rw [← HT.row_length]; exact h3.length_eq
  rw [← hsz]
  exact htSizeC_is A B n c m d ns fs t ⟨h1.rp, h1.sh, by omega⟩ W' (h.to hx).ar h.n1 h.m1 h1.u h.may
/-- What Get tells of a row. -/
def getR (l : Row) (key : Int) : Int × Int := match l.find? (fun y => y.1 == key) with
  | some y => (y.2, 0)
  | none => (0, 3)
theorem getR_has {l : Row} {key v : Int} (hs : Srt l) (h : (key, v) ∈ l) : getR l key = (v, 0) := by
  unfold getR
  cases hf : l.find? (fun y => y.1 == key) with
  | none =>
    have := List.find?_eq_none.1 hf _ h
    simp at this
  | some y =>
    have h1 := List.find?_some hf
    have h2 := List.mem_of_find?_eq_some hf
    have h3 : y.1 = key := by simpa using h1
    have : y = (key, v) := by
      obtain ⟨i, hi⟩ := List.getElem?_of_mem h
      obtain ⟨j, hj⟩ := List.getElem?_of_mem h2
      have hp := List.pairwise_iff_getElem.1 hs
      obtain ⟨i1, i2⟩ := List.getElem?_eq_some_iff.1 hi
      obtain ⟨j1, j2⟩ := List.getElem?_eq_some_iff.1 hj
      rcases Nat.lt_trichotomy i j with e | e | e
      · have := hp i j i1 j1 e
        rw [i2, j2] at this
        simp only at this; omega
      · subst e
        rw [hi] at hj
        injection hj with hj
        exact hj.symm
      · have := hp j i j1 i1 e
        rw [i2, j2] at this
        simp only at this; omega
    rw [this]
theorem getR_none {l : Row} {key : Int} (h : ¬ HasK l key) : getR l key = (0, 3) := by
  unfold getR
  rw [List.find?_eq_none.2 (fun x hx e => h ⟨x.2, by simp at e; rw [← e]; exact hx⟩)]
theorem getL_has {ls : List Lf} {key : Int} (hne : ∀ y ∈ ls, ∀ y' ∈ ls, y.k = key → y'.k = key → y = y') {y : Lf} (hy : y ∈ ls) (hk : y.k = key) : getL key ls = (y.v, 0) := by
  unfold getL
  cases hf : ls.find? (fun y => y.k == key) with
  | none =>
    have := List.find?_eq_none.1 hf _ hy
    simp [hk] at this
  | some u =>
    have h1 := List.find?_some hf
    have h2 := List.mem_of_find?_eq_some hf
    rw [hne u h2 y hy (by simpa using h1) hk]
theorem getL_none {ls : List Lf} {key : Int} (h : ∀ y ∈ ls, y.k ≠ key) : getL key ls = (0, 3) := by
  unfold getL
  rw [List.find?_eq_none.2 (fun x hx e => h x hx (by simpa using e))]
theorem tv_get (h : Av W A n B m ns fs) (hT : TabV ns z l) (hs : Srt l) (hl : l.length ≤ 200) (key : Int) : ∀ W', Ext W W' →
    Calls Try.prog 17 #[.agg #[.slice A n c, .slice B m d], .int .u64 z, .int .i64 key] W' fun e w' => e = .returned (.tuple #[.int .i64 (getR l key).1, .int .i64 (getR l key).2]) ∧ Ext W' w' := by
  intro W' hx
  obtain ⟨t, h1, rfl, h3⟩ := hT
  have hsz : t.size = l.length := by rw [← HT.row_length]; exact h3.length_eq
  have key1 : getL key (lby key t 0) = getR l key := by
    by_cases hK : HasK l key
    · obtain ⟨v, hv⟩ := hK
      rw [getR_has hs hv]
      obtain ⟨y, hy, e⟩ := List.mem_map.1 (h3.mem_iff.2 hv)
      have hyk : y.k = key := congrArg Prod.fst e
      have hyv : y.v = v := congrArg Prod.snd e
      rw [← hyv]
      refine getL_has ?_ (lby_key h1.sh hy hyk) hyk
      intro a ha b hb ea eb
      have ha' := lby_lvs ha
      have hb' := lby_lvs hb
      have hn : t.row.Pairwise (fun a b => a.1 ≠ b.1) := h3.symm.pairwise (Srt.uq hs) (fun {a b} (e : a.1 ≠ b.1) => e.symm)
      unfold HT.row at hn
      rw [List.pairwise_map] at hn
      obtain ⟨i, hi⟩ := List.getElem?_of_mem ha'
      obtain ⟨j, hj⟩ := List.getElem?_of_mem hb'
      obtain ⟨i1, i2⟩ := List.getElem?_eq_some_iff.1 hi
      obtain ⟨j1, j2⟩ := List.getElem?_eq_some_iff.1 hj
      have hp := List.pairwise_iff_getElem.1 hn
      rcases Nat.lt_trichotomy i j with e | e | e
      · have := hp i j i1 j1 e
        rw [i2, j2] at this
        exact absurd (ea.trans eb.symm) this
      · subst e
        rw [hi] at hj
        injection hj
      · have := hp j i j1 i1 e
        rw [i2, j2] at this
        exact absurd (eb.trans ea.symm) this
    · rw [getR_none hK]
      refine getL_none fun y hy e => hK ?_
      have := lby_lvs hy
      exact ⟨y.v, h3.mem_iff.1 (List.mem_map.2 ⟨y, this, by simp [Lf.it, e]⟩)⟩
  rw [← key1]
  exact htGet_is A B n c m d ns fs t ⟨h1.rp, h1.sh, by omega⟩ key W' (h.to hx).ar h.n1 h.m1 h1.u h.may
theorem tv_is (h : Av W A n B m ns fs) (hT : TabV ns z l) (hl : Sm l) {L : Option Addr} {k cL : Nat} (hr : RdR W (.slice L k cL) l) : ∀ W', Ext W W' →
    Calls Try.prog 13 #[.agg #[.slice A n c, .slice B m d], .int .u64 z, .slice L k cL, .int .i64 0] W' fun e w' => e = .returned (.bool true) ∧ Ext W' w' := by
  intro W' hx
  obtain ⟨h1, h2⟩ := hr.cap
  have hk := hr.len
  have hle := hl.le
  exact htIs_apt A B n c m d ns h.ar.ok l z L k cL W' true hk.symm (by omega) h1 h2 (hr.rdi.to hx) (Apt.top hl.ne) hT.u (h.to hx).ar.nodes (by simp only [true_iff]; exact hT.isH)
end

end Go.Proofs.Ytfoifcbaadnigaa
