/-
  What SpanKeeps goes on with.
-/
import Derived.Test.YthgaogbpkedjcaaKeep8
set_option linter.unusedVariables false
set_option linter.unusedSimpArgs false
namespace Go.Proofs.Ythgaogbpkedjcaa
open Go.RowKit

theorem key40 (q : Int) : ∃ K, (wrap64 (q.tmod 40 + 40)).tmod 40 = K ∧ KeyIn K ∧ 0 ≤ K ∧ K ≤ 39 := by
  have h1 : -40 < q.tmod 40 := Int.lt_tmod_of_pos q (by omega)
  have h2 : q.tmod 40 < 40 := Int.tmod_lt_of_pos q (by omega)
  have e : wrap64 (q.tmod 40 + 40) = q.tmod 40 + 40 := w64r _ (by omega) (by omega)
  have h3 : 0 ≤ (q.tmod 40 + 40).tmod 40 := Int.tmod_nonneg _ (by omega)
  have h4 : (q.tmod 40 + 40).tmod 40 < 40 := Int.tmod_lt_of_pos _ (by omega)
  exact ⟨_, rfl, by rw [e]; exact ⟨⟨by omega, by omega⟩, h3, by omega⟩⟩
theorem mem_few {l : Row} {k v : Int} (h : ∀ x ∈ l, 0 ≤ x.1 ∧ x.1 ≤ 39 ∧ 1 ≤ x.2 ∧ x.2 ≤ 20) (hk : 0 ≤ k ∧ k ≤ 39) (hv : 1 ≤ v ∧ v ≤ 20) : ∀ x ∈ putR l k v, 0 ≤ x.1 ∧ x.1 ≤ 39 ∧ 1 ≤ x.2 ∧ x.2 ≤ 20 := fun x hx => by
  rcases mem_putR hx with h1 | rfl
  · exact h x h1
  · exact ⟨hk.1, hk.2, hv.1, hv.2⟩
theorem two_cells {W : World} {b : Nat} {x y : Value} (h : Bx W b #[x, y]) : ∀ j u, [x, y][j]? = some u → W.cell? ((⟨b, 0, none⟩ : Addr).add j) = some u := fun j u hu => by
  rcases j with _ | _ | j
  · simp at hu; subst hu
    rw [addr_zero]; exact h.cell 0
  · simp at hu; subst hu
    exact h.cell 1
  · simp at hu
theorem small_num {z : Int} (h : z < 40) : Go.Proofs.Ythgaogbpkedjcaa.small (.int .i64 z) := ⟨z, rfl, h⟩

/-- An arena and a cursor in variables, the latest map, and what has been stepped over. -/
structure KS (W : World) (bx bo base : Nat) (A : Option Addr) (n c : Nat) (B : Option Addr) (m d : Nat) (ns : List Nd) (fs : List Int) (r : Int) (row : Row) (z : Int) (row2 : Row) (f : Nat) (a high : Int) (q : Bool) (gv : Value) (k : Nat) (got : Row) : Prop where
  box : Bx W bx #[.slice A n c, .slice B m d]
  cu : Bx W bo #[.int .u64 r, .int .i64 a, .int .i64 high, .bool q]
  av : Av W A n B m ns fs
  mp : MapV ns r row
  mq : MapV ns z row2
  own : OwnQ W base gv k (flat itc got) Go.Proofs.Ythgaogbpkedjcaa.small
  lt : bx < bo ∧ bo < base
  few : row2.length ≤ f
  fl : 300 ≤ fs.length
  gl : got.length = k
section
variable {W W' : World} {bx bo base n c m d k f : Nat} {A B : Option Addr} {ns : List Nd} {fs : List Int} {r z a high : Int} {q : Bool} {row row2 got : Row} {gv : Value}
theorem KS.to (h : KS W bx bo base A n c B m d ns fs r row z row2 f a high q gv k got) (hx : Ext W W') : KS W' bx bo base A n c B m d ns fs r row z row2 f a high q gv k got :=
  ⟨h.box.to hx, h.cu.to hx, h.av.to hx, h.mp, h.mq, h.own.to hx, h.lt, h.few, h.fl, h.gl⟩
theorem KS.more {f' : Nat} (h : KS W bx bo base A n c B m d ns fs r row z row2 f a high q gv k got) (hf : f ≤ f') : KS W bx bo base A n c B m d ns fs r row z row2 f' a high q gv k got :=
  ⟨h.box, h.cu, h.av, h.mp, h.mq, h.own, h.lt, Nat.le_trans h.few hf, h.fl, h.gl⟩
/-- A new map goes into the variable. -/
theorem KS.put (h : KS W bx bo base A n c B m d ns fs r row z row2 f a high q gv k got) {A' B' : Option Addr} {n' c' m' d' s : Nat} {ns' : List Nd} {fs' : List Int} {z' : Int} {row' : Row} (hav : Av W A' n' B' m' ns' fs') (hG : Gr ns fs ns' fs' s) (hM : MapV ns' z' row') (hl : row'.length ≤ f + 1) (hf : 300 ≤ fs'.length)
    (hB : Bx W' bx #[.slice A' n' c', .slice B' m' d']) (ho : Only bx W W') : KS W' bx bo base A' n' c' B' m' d' ns' fs' r row z' row' (f + 1) a high q gv k got := by
  have hlt := h.lt
  exact ⟨hB, ho.bx h.cu (by omega), hav.sz ho h.box (by simp) (by omega), h.mp.grow hG, hM, h.own.grown ho (fun g hg e => by have := h.own.ge hg; injection e with e; omega), h.lt, hl, hf, h.gl⟩
/-- The cursor goes on. -/
theorem KS.step (h : KS W bx bo base A n c B m d ns fs r row z row2 f a high q gv k got) {a' : Int} {q' : Bool} (hB : Bx W' bo #[.int .u64 r, .int .i64 a', .int .i64 high, .bool q']) (ho : Only bo W W') : KS W' bx bo base A n c B m d ns fs r row z row2 f a' high q' gv k got := by
  have hlt := h.lt
  have hfl := h.fl
  exact ⟨ho.bx h.box (by omega), hB, h.av.sz ho h.cu (by simp) (by omega), h.mp, h.mq, h.own.grown ho (fun g hg e => by have := h.own.ge hg; injection e with e; omega), h.lt, h.few, h.fl, h.gl⟩
/-- One more is stepped over. -/
theorem KS.app (h : KS W bx bo base A n c B m d ns fs r row z row2 f a high q gv k got) {gv' : Value} {x y : Int} (ho : OwnQ W' base gv' (k + 1) (flat itc got ++ [.int .i64 x, .int .i64 y]) Go.Proofs.Ythgaogbpkedjcaa.small) (hg : W.grownBy W' gv.ownBlock) : KS W' bx bo base A n c B m d ns fs r row z row2 f a high q gv' (k + 1) (got ++ [(x, y)]) := by
  have e1 : flat itc (got ++ [(x, y)]) = flat itc got ++ [.int .i64 x, .int .i64 y] := by rw [← flat_append]; rfl
  have e2 : (got ++ [(x, y)]).length = k + 1 := by simp [h.gl]
  have hlt := h.lt
  have hfl := h.fl
  cases hv : gv.ownBlock with
  | none =>
    rw [hv] at hg
    have h2 := h.to (grown_none hg)
    exact ⟨h2.box, h2.cu, h2.av, h2.mp, h2.mq, by rw [e1]; exact ho, h2.lt, h2.few, h2.fl, e2⟩
  | some g =>
    rw [hv] at hg
    have hge := h.own.ge hv
    obtain ⟨cur, hc, hall⟩ := h.own.all g hv
    exact ⟨h.box.grown hg (fun e => by injection e with e; omega), h.cu.grown hg (fun e => by injection e with e; omega), h.av.small hg hc hall (by omega), h.mp, h.mq, by rw [e1]; exact ho, h.lt, h.few, h.fl, e2⟩
/-- Where the blocks of what has been stepped over lie. -/
theorem KS.gb (h : KS W bx bo base A n c B m d ns fs r row z row2 f a high q gv k got) : ∀ g, gv.ownBlock = some g → base ≤ g := fun g hg => h.own.ge hg
end

/-- What a step answers, told by what has been stepped over. -/
def NextK (l got : Row) (low b a2 : Int) (q : Bool) (x y : Int) : Prop :=
  (got = inn l low b ∧ q = true ∧ x = 0 ∧ y = 0) ∨ (got ++ [(x, y)] = inn l low b ∧ q = true ∧ x < 40 ∧ 1 ≤ y ∧ y ≤ 20) ∨ ((got ++ [(x, y)]) ++ inn l a2 b = inn l low b ∧ q = false ∧ -9223372036854775808 ≤ a2 ∧ (x < 40 ∧ 1 ≤ y ∧ y ≤ 20) ∧ got.length + 1 ≤ l.length)
theorem stepk {l got : Row} {low a b z : Int} (hrg : ∀ x ∈ l, 0 ≤ x.1 ∧ x.1 ≤ 39 ∧ 1 ≤ x.2 ∧ x.2 ≤ 20) (hs : Srt l) (hsum : got ++ inn l a b = inn l low b) (ha : -9223372036854775808 ≤ a) {w : World} {e : Ending} {w' : World} (h : StepO l[(lo l a).length]? z a b w e w') :
    ∃ a2 q x y, StepA z a2 b q x y 0 w e w' ∧ NextK l got low b a2 q x y := by
  have hin : ∀ x, x ∈ inn l a b → 0 ≤ x.1 ∧ x.1 ≤ 39 ∧ 1 ≤ x.2 ∧ x.2 ≤ 20 := fun x hx => hrg x ((List.mem_filter.1 hx).1)
  have hlen : got.length + (inn l a b).length ≤ l.length := by
    have h1 := inn_len l low b
    rw [← hsum, List.length_append] at h1
    exact h1
  rcases stepO_inn hs h with ⟨h1, h2⟩ | ⟨x, r, h1, h2, h3, h4⟩ | ⟨x, r, h1, h2, h3, h4, h5⟩
  · exact ⟨_, _, _, _, h2, .inl ⟨by rw [← hsum, h1, List.append_nil], rfl, rfl, rfl⟩⟩
  · subst h3
    have hx := hin x (by rw [h1]; exact List.mem_cons_self)
    exact ⟨_, _, _, _, h4, .inr (.inl ⟨by rw [← hsum, h1], rfl, by omega, hx.2.2.1, hx.2.2.2⟩)⟩
  · have hx := hin x (by rw [h1]; exact List.mem_cons_self)
    refine ⟨_, _, _, _, h5, .inr (.inr ⟨?_, rfl, by omega, ⟨by omega, hx.2.2.1, hx.2.2.2⟩, ?_⟩)⟩
    · rw [← hsum, h1, h4, List.append_assoc]; rfl
    · rw [h1] at hlen
      simp only [List.length_cons] at hlen
      omega

end Go.Proofs.Ythgaogbpkedjcaa
