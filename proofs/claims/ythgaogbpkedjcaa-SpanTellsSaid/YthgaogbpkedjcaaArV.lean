/-
  Maps in an arena, each told by its row: the calls' contracts in these words; rows read by the document's answers.
-/
import Derived.Test.YthgaogbpkedjcaaGJ
import Derived.Test.YthgaogbpkedjcaaRfBuild
import Derived.Test.YthgaogbpkedjcaaGK
set_option linter.unusedVariables false
set_option linter.unusedSimpArgs false
namespace Go.Proofs.Ythgaogbpkedjcaa
open Go.RowKit

/-- A value is a slice that shows a row. -/
def RdR (W : World) (v : Value) (l : Row) : Prop := ∃ A c, v = .slice A l.length c ∧ RdI W A l.length l ∧ l.length ≤ c ∧ c ≤ maxLen
theorem RdR.to {W W' : World} {v : Value} {l : Row} (h : RdR W v l) (hx : Ext W W') : RdR W' v l := by
  obtain ⟨A, c, h1, h2, h3⟩ := h
  exact ⟨A, c, h1, h2.to hx, h3⟩
theorem RdR.sl {W : World} {v : Value} {l : Row} (h : RdR W v l) : ∃ A n c, v = .slice A n c ∧ RdR W (.slice A n c) l ∧ n = l.length := by
  obtain ⟨A, c, rfl, h2⟩ := h
  exact ⟨A, l.length, c, rfl, ⟨A, c, rfl, h2⟩, rfl⟩
theorem RdR.len {W : World} {A : Option Addr} {n c : Nat} {l : Row} (h : RdR W (.slice A n c) l) : n = l.length := by
  obtain ⟨A', c', e, _⟩ := h
  injection e
theorem RdR.cap {W : World} {A : Option Addr} {n c : Nat} {l : Row} (h : RdR W (.slice A n c) l) : n ≤ c ∧ c ≤ maxLen := by
  obtain ⟨A', c', e, _, h3, h4⟩ := h
  injection e with e1 e2 e3
  subst e1 e2 e3
  exact ⟨h3, h4⟩
theorem RdR.rdi {W : World} {A : Option Addr} {n c : Nat} {l : Row} (h : RdR W (.slice A n c) l) : RdI W A n l := by
  obtain ⟨A', c', e, h2, _⟩ := h
  injection e with e1 e2 e3
  subst e1 e2 e3
  exact h2
theorem putR_len1 {l : Row} (h : Srt l) {k v : Int} : (putR l k v).length ≤ l.length + 1 := (put_le h).1
theorem RdR.nil0 (W : World) : RdR W (.slice none 0 0) [] := ⟨none, 0, rfl, Rd.nil _ _ _, Nat.le_refl _, by unfold maxLen; omega⟩
theorem RdR.nilq (W : World) (q : Addr) : RdR W (.slice (some q) 0 0) [] := ⟨some q, 0, rfl, Rd.nil _ _ _, Nat.le_refl _, by unfold maxLen; omega⟩
theorem RowA.rdr {l : Row} {w : World} {e : Ending} {w' : World} (h : RowA l w e w') : ∃ A j c, e = .returned (.slice A j c) ∧ RdR w' (.slice A j c) l ∧ Ext w w' := by
  obtain ⟨A, c, h1, h2, h3, h4, h5⟩ := h
  exact ⟨A, _, c, h1, ⟨A, c, rfl, h2, h3, h4⟩, h5⟩
def RowS (l : Row) (w : World) (e : Ending) (w' : World) : Prop := ∃ A j c, e = .returned (.slice A j c) ∧ RdR w' (.slice A j c) l ∧ Ext w w'
theorem rdr_put {W : World} {A : Option Addr} {n c : Nat} {l : Row} (h : RdR W (.slice A n c) l) (hl : l.length ≤ 1000) (hs : Srt l) (key u : Int) : ∀ W', Ext W W' → Calls Try.prog 19 #[.slice A n c, .int .i64 key, .int .i64 u] W' (RowS (putR l key u) W') := by
  intro W' hx
  obtain ⟨A, c, h1, h2, h3, h4⟩ := h
  injection h1 with e1 e2 e3
  subst e1 e2 e3
  exact (rfPut_is _ l.length _ l key u W' (h2.to hx) hl hs).mono fun e w' h => h.rdr
/-- A reference is the map of a row, in an arena's nodes. -/
def MapV (ns : List Nd) (z : Int) (l : Row) : Prop := ∃ t, Mp ns t ∧ t.ref = z ∧ t.row = l ∧ U z
theorem MapV.grow {ns ns' : List Nd} {fs fs' : List Int} {c : Nat} {z : Int} {l : Row} (h : MapV ns z l) (hg : Gr ns fs ns' fs' c) : MapV ns' z l := by
  obtain ⟨t, h1, h2⟩ := h
  exact ⟨t, ⟨hg.rep h1.rep, h1.srt, h1.hp, h1.le⟩, h2⟩
theorem MapV.srt {ns : List Nd} {z : Int} {l : Row} (h : MapV ns z l) : Srt l := by
  obtain ⟨t, h1, _, rfl, _⟩ := h
  exact h1.srt
theorem MapV.le {ns : List Nd} {z : Int} {l : Row} (h : MapV ns z l) : l.length ≤ 200 := by
  obtain ⟨t, h1, _, rfl, _⟩ := h
  rw [T.row_length]; exact h1.le
theorem MapV.isP {ns : List Nd} {z : Int} {l : Row} (h : MapV ns z l) : IsP ns z l := by
  obtain ⟨t, h1, h2, h3, _⟩ := h
  exact ⟨t, h1.rep, h2, h3, h1.hp⟩
theorem MapV.nil (ns : List Nd) : MapV ns 0 [] := ⟨.nil, mp_nil ns, rfl, rfl, U.zero⟩
theorem MapV.of {ns : List Nd} {z : Int} {l : Row} (h : IsP ns z l) (hs : Srt l) (hl : l.length ≤ 200) (hU : U z) : MapV ns z l := by
  obtain ⟨t, q1, q2, q3⟩ := isP_mp h hs hl
  exact ⟨t, q1, q2, q3, hU⟩

/-- An arena that may be, in a world, with some free nodes at least. -/
structure Av (W : World) (A : Option Addr) (n : Nat) (B : Option Addr) (m : Nat) (ns : List Nd) (fs : List Int) : Prop where
  ar : Ar W A n B m ns fs
  may : ArMay ns fs
section
variable {W : World} {A B : Option Addr} {n m c d : Nat} {ns : List Nd} {fs : List Int} {z : Int} {l : Row}
theorem Av.to {W' : World} (h : Av W A n B m ns fs) (hx : Ext W W') : Av W' A n B m ns fs := ⟨h.ar.to hx, h.may⟩
theorem Av.n1 (h : Av W A n B m ns fs) : n ≤ 1000 := by have := h.may.le; have := h.ar.len; omega
theorem Av.m1 (h : Av W A n B m ns fs) : m ≤ 1000 := by have := h.may.le; have := h.may.len; have := h.ar.lenF; omega

/-- What Build answers. -/
def BuildV (n : Nat) (l : Row) (w : World) (e : Ending) (w' : World) : Prop :=
  ∃ (A : Option Addr) (k c : Nat) (B : Option Addr) (m d : Nat) (ns : List Nd) (fs : List Int) (z : Int), e = .returned (.tuple #[.agg #[.slice A k c, .slice B m d], .int .u64 z]) ∧ Av w' A k B m ns fs ∧ MapV ns z l ∧ n - l.length ≤ fs.length ∧ Ext w w'
theorem av_build {A : Option Addr} {j c : Nat} (h : RdR W (.slice A j c) l) (hs : Srt l) (n : Nat) (h1 : 1 ≤ n) (h2 : n ≤ 512) (hl : l.length ≤ n) (hl2 : l.length ≤ 200) : ∀ W', Ext W W' → Calls Try.prog 20 #[.int .i64 n, .slice A j c] W' (BuildV n l W') := by
  intro W' hx
  obtain ⟨A, c, e0, q2, q3, q4⟩ := h
  injection e0 with e1 e2 e3
  subst e1 e2 e3
  refine (build_is n l.length l _ _ W' h1 h2 rfl hl hl2 q3 q4 (q2.to hx) hs).mono ?_
  rintro e w' ⟨A, k, c, B, m, d, z, rfl, ⟨A', n', c', B', m', d', ns, fs, t, e1, e2, hA, hmay, hM, hz, hrow, hU, hq⟩, hx2⟩
  injection e1 with e11 e12 e13; injection e2 with e21 e22 e23
  subst e11 e12 e13 e21 e22 e23
  exact ⟨_, _, _, _, _, _, ns, fs, z, rfl, ⟨hA, hmay⟩, ⟨t, hM, hz, hrow, hU⟩, hq, hx2⟩
/-- What a call that makes a map answers, where enough nodes are free. -/
def MadeV (ns : List Nd) (fs : List Int) (k : Nat) (l : Row) (w : World) (e : Ending) (w' : World) : Prop :=
  ∃ (A : Option Addr) (n c : Nat) (B : Option Addr) (m d : Nat) (ns' : List Nd) (fs' : List Int) (z : Int), e = .returned (.tuple #[.agg #[.slice A n c, .slice B m d], .int .u64 z, .int .i64 0]) ∧ Av w' A n B m ns' fs' ∧ Gr ns fs ns' fs' k ∧ MapV ns' z l ∧ Ext w w'
theorem av_put (h : Av W A n B m ns fs) (hM : MapV ns z l) (key v : Int) (hk : KeyIn key) (hl : l.length ≤ 199) (hf : l.length + 1 ≤ fs.length) : ∀ W', Ext W W' → Calls Try.prog 21 #[.agg #[.slice A n c, .slice B m d], .int .u64 z, .int .i64 key, .int .i64 v] W' (MadeV ns fs (l.length + 1) (putR l key v) W') := by
  intro W' hx
  obtain ⟨t, h1, rfl, rfl, hU⟩ := hM
  refine (trPut_is A B n m c d ns fs t key v W' (h.to hx).ar h.n1 h.m1 hU h.may h1 hk (fun e => by rw [T.row_length] at hl; omega)).mono ?_
  rw [T.row_length] at hl hf
  rintro e w3 ⟨⟨rfl, hlt⟩ | ⟨A', n', c', B', m', d', ns', fs', z, rfl, hA3, hmay3, hG3, hU3, hIs3⟩, hx3⟩
  · omega
  · have hp := put_le h1.srt (k := key) (v := v)
    rw [T.row_length] at hp ⊢
    exact ⟨A', n', c', B', m', d', ns', fs', z, rfl, ⟨hA3, hmay3⟩, hG3, MapV.of hIs3 (h1.srt.putR key v) (by omega) hU3, hx3⟩
/-- What Split answers, where enough nodes are free. -/
def SplitV (ns : List Nd) (fs : List Int) (k : Nat) (l1 l2 : Row) (w : World) (e : Ending) (w' : World) : Prop :=
  ∃ (A : Option Addr) (n c : Nat) (B : Option Addr) (m d : Nat) (ns' : List Nd) (fs' : List Int) (z1 z2 : Int), e = .returned (.tuple #[.agg #[.slice A n c, .slice B m d], .int .u64 z1, .int .u64 z2, .int .i64 0]) ∧ Av w' A n B m ns' fs' ∧ Gr ns fs ns' fs' k ∧ MapV ns' z1 l1 ∧ MapV ns' z2 l2 ∧ Ext w w'
theorem av_is (h : Av W A n B m ns fs) (hM : MapV ns z l) {L : Option Addr} {j cL : Nat} (hr : RdR W (.slice L j cL) l) : ∀ W', Ext W W' → Calls Try.prog 31 #[.agg #[.slice A n c, .slice B m d], .int .u64 z, .slice L j cL] W' fun e w' => e = .returned (.bool true) ∧ Ext W' w' := by
  intro W' hx
  obtain ⟨L, cL, e0, q2, q3, q4⟩ := hr
  injection e0 with e1 e2 e3
  subst e1 e2 e3
  have hU : U z := by obtain ⟨t, _, _, _, hU⟩ := hM; exact hU
  exact is_is A B n c m d ns h.ar.ok l.length l z _ _ W' true rfl (by have := hM.le; omega) q3 q4 (q2.to hx) hM.srt hU (h.to hx).ar.nodes ⟨fun _ => hM.isP, fun _ => rfl⟩
theorem av_row (h : Av W A n B m ns fs) (hM : MapV ns z l) : ∀ W', Ext W W' → Calls Try.prog 16 #[.agg #[.slice A n c, .slice B m d], .int .u64 z, .int .i64 201] W' (RowS l W') := by
  intro W' hx
  obtain ⟨t, h1, rfl, rfl, hU⟩ := hM
  have := row_is A B n c m d ns h.ar.ok 201 t.ref W' (by omega) hU (h.to hx).ar.nodes
  rw [rowF_rep h1.rep (by have := h1.le; omega), show ((201 : Nat) : Int) = 201 from rfl] at this
  exact this.mono fun e w' h => h.rdr
end

end Go.Proofs.Ythgaogbpkedjcaa
