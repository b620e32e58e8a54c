/-
  Maps in an arena, each told by its row: the calls' contracts in these words; rows read by the document's answers.
-/
import Derived.Test.YtfoifcbaadnigaaGF
import Derived.Test.YtfoifcbaadnigaaGG
set_option linter.unusedVariables false
set_option linter.unusedSimpArgs false
namespace Go.Proofs.Ytfoifcbaadnigaa
open Go.RowKit

/-- A value is a slice that shows a row. -/
def RdR (W : World) (v : Value) (l : Row) : Prop := ∃ A c, v = .slice A l.length c ∧ RdI W A l.length l ∧ l.length ≤ c ∧ c ≤ maxLen
theorem RdR.to {W W' : World} {v : Value} {l : Row} (h : RdR W v l) (hx : Ext W W') : RdR W' v l := by
  obtain ⟨A, c, h1, h2, h3⟩ := h
  exact ⟨A, c, h1, h2.to hx, h3⟩
theorem RdR.sl {W : World} {v : Value} {l : Row} (h : RdR W v l) : ∃ A n c, v = .slice A n c ∧ RdR W (.slice A n c) l ∧ n = l.length := by
  obtain ⟨A, c, rfl, h2⟩ := h
  exact ⟨A, l.length, c, rfl, ⟨A, c, rfl, h2⟩, rfl⟩
theorem RdR.len {W : World} {A : Option Addr} {n c : Nat} {l : Row} (h : RdR W (.slice A n c) l) : n = l.length := by
  obtain ⟨A', c', e, _⟩ := h
  injection e
theorem RdR.cap {W : World} {A : Option Addr} {n c : Nat} {l : Row} (h : RdR W (.slice A n c) l) : n ≤ c ∧ c ≤ maxLen := by
  obtain ⟨A', c', e, _, h3, h4⟩ := h
  injection e with e1 e2 e3
  subst e1 e2 e3
  exact ⟨h3, h4⟩
theorem RdR.rdi {W : World} {A : Option Addr} {n c : Nat} {l : Row} (h : RdR W (.slice A n c) l) : RdI W A n l := by
  obtain ⟨A', c', e, h2, _⟩ := h
  injection e with e1 e2 e3
  subst e1 e2 e3
  exact h2
theorem putR_len1 {l : Row} (h : Srt l) {k v : Int} : (putR l k v).length ≤ l.length + 1 := (put_le h).1
theorem RdR.nil0 (W : World) : RdR W (.slice none 0 0) [] := ⟨none, 0, rfl, Rd.nil _ _ _, Nat.le_refl _, by unfold maxLen; omega⟩
theorem RdR.nilq (W : World) (q : Addr) : RdR W (.slice (some q) 0 0) [] := ⟨some q, 0, rfl, Rd.nil _ _ _, Nat.le_refl _, by unfold maxLen; omega⟩
theorem RowA.rdr {l : Row} {w : World} {e : Ending} {w' : World} (h : RowA l w e w') : ∃ A j c, e = .returned (.slice A j c) ∧ RdR w' (.slice A j c) l ∧ Ext w w' := by
  obtain ⟨A, c, h1, h2, h3, h4, h5⟩ := h
  exact ⟨A, _, c, h1, ⟨A, c, rfl, h2, h3, h4⟩, h5⟩
def RowS (l : Row) (w : World) (e : Ending) (w' : World) : Prop := ∃ A j c, e = .returned (.slice A j c) ∧ RdR w' (.slice A j c) l ∧ Ext w w'
theorem rdr_put {W : World} {A : Option Addr} {n c : Nat} {l : Row} (h : RdR W (.slice A n c) l) (hl : l.length ≤ 1000) (hs : Srt l) (key u : Int) : ∀ W', Ext W W' → Calls Try.prog 12 #[.slice A n c, .int .i64 key, .int .i64 u] W' (RowS (putR l key u) W') := by
  intro W' hx
  obtain ⟨A, c, h1, h2, h3, h4⟩ := h
  injection h1 with e1 e2 e3
  subst e1 e2 e3
  exact (rfPut_is _ l.length _ l key u W' (h2.to hx) hl hs).mono fun e w' h => h.rdr
theorem rdr_del {W : World} {A : Option Addr} {n c : Nat} {l : Row} (h : RdR W (.slice A n c) l) (hl : l.length ≤ 1000) (key : Int) : ∀ W', Ext W W' → Calls Try.prog 10 #[.slice A n c, .int .i64 key] W' (RowS (delR l key) W') := by
  intro W' hx
  obtain ⟨A, c, h1, h2, h3, h4⟩ := h
  injection h1 with e1 e2 e3
  subst e1 e2 e3
  exact (rfDel_is _ l.length _ l key W' (h2.to hx) hl).mono fun e w' h => h.rdr
theorem rdr_at {W : World} {A : Option Addr} {n c : Nat} {l : Row} (h : RdR W (.slice A n c) l) (hl : l.length ≤ 1000) (key : Int) : ∀ W', Ext W W' → Calls Try.prog 9 #[.slice A n c, .int .i64 key] W' (AtA l key W') := by
  intro W' hx
  obtain ⟨A, c, h1, h2, h3, h4⟩ := h
  injection h1 with e1 e2 e3
  subst e1 e2 e3
  exact rfAt_is _ l.length _ l key W' (h2.to hx) hl

/-- A reference is the map of a row, in an arena's nodes. -/
def MapV (ns : List Nd) (z : Int) (l : Row) : Prop := ∃ t, Mp ns t ∧ t.ref = z ∧ t.row = l ∧ U z
theorem MapV.grow {ns ns' : List Nd} {fs fs' : List Int} {c : Nat} {z : Int} {l : Row} (h : MapV ns z l) (hg : Gr ns fs ns' fs' c) : MapV ns' z l := by
  obtain ⟨t, h1, h2⟩ := h
  exact ⟨t, ⟨hg.rep h1.rep, h1.srt, h1.hp, h1.le⟩, h2⟩
theorem MapV.srt {ns : List Nd} {z : Int} {l : Row} (h : MapV ns z l) : Srt l := by
  obtain ⟨t, h1, _, rfl, _⟩ := h
  exact h1.srt
theorem MapV.le {ns : List Nd} {z : Int} {l : Row} (h : MapV ns z l) : l.length ≤ 200 := by
  obtain ⟨t, h1, _, rfl, _⟩ := h
  rw [T.row_length]; exact h1.le
theorem MapV.isP {ns : List Nd} {z : Int} {l : Row} (h : MapV ns z l) : IsP ns z l := by
  obtain ⟨t, h1, h2, h3, _⟩ := h
  exact ⟨t, h1.rep, h2, h3, h1.hp⟩
theorem MapV.nil (ns : List Nd) : MapV ns 0 [] := ⟨.nil, mp_nil ns, rfl, rfl, U.zero⟩
theorem MapV.of {ns : List Nd} {z : Int} {l : Row} (h : IsP ns z l) (hs : Srt l) (hl : l.length ≤ 200) (hU : U z) : MapV ns z l := by
  obtain ⟨t, q1, q2, q3⟩ := isP_mp h hs hl
  exact ⟨t, q1, q2, q3, hU⟩

/-- An arena that may be, in a world, with some free nodes at least. -/
structure Av (W : World) (A : Option Addr) (n : Nat) (B : Option Addr) (m : Nat) (ns : List Nd) (fs : List Int) : Prop where
  ar : Ar W A n B m ns fs
  may : ArMay ns fs
section
variable {W : World} {A B : Option Addr} {n m c d : Nat} {ns : List Nd} {fs : List Int} {z : Int} {l : Row}
theorem Av.to {W' : World} (h : Av W A n B m ns fs) (hx : Ext W W') : Av W' A n B m ns fs := ⟨h.ar.to hx, h.may⟩
theorem Av.n1 (h : Av W A n B m ns fs) : n ≤ 1000 := by have := h.may.le; have := h.ar.len; omega
theorem Av.m1 (h : Av W A n B m ns fs) : m ≤ 1000 := by have := h.may.le; have := h.may.len; have := h.ar.lenF; omega

/-- What Build answers. -/
def BuildV (n : Nat) (l : Row) (w : World) (e : Ending) (w' : World) : Prop :=
  ∃ (A : Option Addr) (k c : Nat) (B : Option Addr) (m d : Nat) (ns : List Nd) (fs : List Int) (z : Int), e = .returned (.tuple #[.agg #[.slice A k c, .slice B m d], .int .u64 z]) ∧ Av w' A k B m ns fs ∧ MapV ns z l ∧ n - l.length ≤ fs.length ∧ Ext w w'
/-- What a call that makes a map answers, where enough nodes are free. -/
def MadeV (ns : List Nd) (fs : List Int) (k : Nat) (l : Row) (w : World) (e : Ending) (w' : World) : Prop :=
  ∃ (A : Option Addr) (n c : Nat) (B : Option Addr) (m d : Nat) (ns' : List Nd) (fs' : List Int) (z : Int), e = .returned (.tuple #[.agg #[.slice A n c, .slice B m d], .int .u64 z, .int .i64 0]) ∧ Av w' A n B m ns' fs' ∧ Gr ns fs ns' fs' k ∧ MapV ns' z l ∧ Ext w w'
/-- What Split answers, where enough nodes are free. -/
def SplitV (ns : List Nd) (fs : List Int) (k : Nat) (l1 l2 : Row) (w : World) (e : Ending) (w' : World) : Prop :=
  ∃ (A : Option Addr) (n c : Nat) (B : Option Addr) (m d : Nat) (ns' : List Nd) (fs' : List Int) (z1 z2 : Int), e = .returned (.tuple #[.agg #[.slice A n c, .slice B m d], .int .u64 z1, .int .u64 z2, .int .i64 0]) ∧ Av w' A n B m ns' fs' ∧ Gr ns fs ns' fs' k ∧ MapV ns' z1 l1 ∧ MapV ns' z2 l2 ∧ Ext w w'
end

end Go.Proofs.Ytfoifcbaadnigaa
