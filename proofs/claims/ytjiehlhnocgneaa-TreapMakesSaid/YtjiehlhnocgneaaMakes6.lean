/-
  Words for the pieces of TreapMakes: what each call answers, where nodes may be too few.
-/
import Derived.Test.YtjiehlhnocgneaaKept6
set_option linter.unusedVariables false
set_option linter.unusedSimpArgs false
namespace Go.Proofs.Ytjiehlhnocgneaa
open Go.RowKit

def find6 (k : Nat) : Code → Option Code
  | .region id ops b => if id == k then some (.region id ops b) else none
  | .seq a b => match find6 k a with
    | some c => some (.seq c b)
    | none => find6 k b
  | _ => none
noncomputable def makesT (k : Nat) : Code := ((Try.f3.body.bind (find6 k)).getD .skip)

theorem put_same {l : Row} (h : Srt l) {k v : Int} (hk : HasK l k) : (putR l k v).length = l.length := by
  obtain ⟨u, hu⟩ := hk
  obtain ⟨a, b, rfl⟩ := List.append_of_mem hu
  rw [put_here h]
  simp
/-- A map of a row, made with at most k nodes, or none where fewer are free. -/
def MV (W : World) (A : Option Addr) (n : Nat) (B : Option Addr) (m : Nat) (s e : Int) (ns : List Nd) (fs : List Int) (k : Nat) (l : Row) : Prop :=
  (e = 2 ∧ fs.length < k) ∨ (e = 0 ∧ ∃ (ns' : List Nd) (fs' : List Int), Av W A n B m ns' fs' ∧ Gr ns fs ns' fs' k ∧ MapV ns' s l)
def PuV (W : World) (A : Option Addr) (n : Nat) (B : Option Addr) (m : Nat) (s e : Int) (ns : List Nd) (fs : List Int) (l : Row) (key v : Int) : Prop :=
  ((¬ KeyIn key ∨ (l.length = 200 ∧ ¬ HasK l key)) ∧ e = 5 ∧ s = 0) ∨ ((KeyIn key ∧ (l.length = 200 → HasK l key)) ∧ MV W A n B m s e ns fs (l.length + 1) (putR l key v))
def DeV (W : World) (A : Option Addr) (n : Nat) (B : Option Addr) (m : Nat) (s e : Int) (ns : List Nd) (fs : List Int) (l : Row) (key : Int) : Prop :=
  (¬ HasK l key ∧ e = 3 ∧ s = 0) ∨ (HasK l key ∧ MV W A n B m s e ns fs (l.length - 1) (delR l key))
def SpV (W : World) (A : Option Addr) (n : Nat) (B : Option Addr) (m : Nat) (x y e : Int) (ns : List Nd) (fs : List Int) (l : Row) (key : Int) : Prop :=
  (e = 2 ∧ x = 0 ∧ y = 0 ∧ fs.length < l.length) ∨ (e = 0 ∧ ∃ (ns' : List Nd) (fs' : List Int), Av W A n B m ns' fs' ∧ Gr ns fs ns' fs' l.length ∧ MapV ns' x (lo l key) ∧ MapV ns' y (ge l key))
section
variable {W W' : World} {A B : Option Addr} {n m k c d : Nat} {s x y e z : Int} {ns : List Nd} {fs : List Int} {l : Row} {key v : Int}
theorem MV.to (h : MV W A n B m s e ns fs k l) (hx : Ext W W') : MV W' A n B m s e ns fs k l := by
  rcases h with h | ⟨h1, ns', fs', h2, h3⟩
  · exact .inl h
  · exact .inr ⟨h1, ns', fs', h2.to hx, h3⟩
theorem PuV.to (h : PuV W A n B m s e ns fs l key v) (hx : Ext W W') : PuV W' A n B m s e ns fs l key v := h.imp id (fun ⟨a, b⟩ => ⟨a, b.to hx⟩)
theorem DeV.to (h : DeV W A n B m s e ns fs l key) (hx : Ext W W') : DeV W' A n B m s e ns fs l key := h.imp id (fun ⟨a, b⟩ => ⟨a, b.to hx⟩)
theorem SpV.to (h : SpV W A n B m x y e ns fs l key) (hx : Ext W W') : SpV W' A n B m x y e ns fs l key := by
  rcases h with h | ⟨h1, ns', fs', h2, h3⟩
  · exact .inl h
  · exact .inr ⟨h1, ns', fs', h2.to hx, h3⟩
/-- An answer of three parts. -/
def Tells (w : World) (R : World → Option Addr → Nat → Option Addr → Nat → Int → Int → Prop) (e : Ending) (w' : World) : Prop :=
  ∃ (A : Option Addr) (n c : Nat) (B : Option Addr) (m d : Nat) (s x : Int), e = .returned (.tuple #[.agg #[.slice A n c, .slice B m d], .int .u64 s, .int .i64 x]) ∧ R w' A n B m s x ∧ Ext w w'
theorem ErrA.tells {R : World → Option Addr → Nat → Option Addr → Nat → Int → Int → Prop} {i : Int} {w : World} {q : Ending} {w' : World} (h : ErrA i w q w') (hR : R w' none 0 none 0 0 i) : Tells w R q w' := by
  obtain ⟨rfl, hx⟩ := h
  exact ⟨none, 0, 0, none, 0, 0, 0, i, rfl, hR, hx⟩
theorem ResA.tells {w : World} {q : Ending} {w' : World} (h : ResA ns fs k l w q w') (hs : Srt l) (hl : l.length ≤ 200) : Tells w (fun W A n B m s x => MV W A n B m s x ns fs k l) q w' := by
  obtain ⟨⟨rfl, hlt⟩ | ⟨A', n', c', B', m', d', ns', fs', z, rfl, hA3, hmay3, hG3, hU3, hIs3⟩, hx⟩ := h
  · exact ⟨_, _, _, _, _, _, _, _, rfl, .inl ⟨rfl, hlt⟩, hx⟩
  · exact ⟨_, _, _, _, _, _, _, _, rfl, .inr ⟨rfl, ns', fs', ⟨hA3, hmay3⟩, hG3, MapV.of hIs3 hs hl hU3⟩, hx⟩
theorem Tells.mono {R R' : World → Option Addr → Nat → Option Addr → Nat → Int → Int → Prop} {w : World} {q : Ending} {w' : World} (h : Tells w R q w') (hR : ∀ A n B m s x, R w' A n B m s x → R' w' A n B m s x) : Tells w R' q w' := by
  obtain ⟨A, n, c, B, m, d, s, x, h1, h2, h3⟩ := h
  exact ⟨A, n, c, B, m, d, s, x, h1, hR _ _ _ _ _ _ h2, h3⟩
theorem put_may (h : Av W A n B m ns fs) (hM : MapV ns z l) (key v : Int) : ∀ W', Ext W W' → Calls Try.prog 15 #[.agg #[.slice A n c, .slice B m d], .int .u64 z, .int .i64 key, .int .i64 v] W' (Tells W' fun W A n B m s x => PuV W A n B m s x ns fs l key v) := by
  intro W' hx
  obtain ⟨t, h1, rfl, rfl, hU⟩ := hM
  by_cases hk : KeyIn key
  · by_cases hin : t.size = 200 ∧ ¬ HasK t.row key
    · exact (trPut_more A B n m c d ns fs t key v W' (h.to hx).ar h.n1 h.m1 hU h.may h1 hk hin.1 hin.2).mono fun e w' q => q.tells (.inl ⟨.inr ⟨by rw [T.row_length]; exact hin.1, hin.2⟩, rfl, rfl⟩)
    · have hin' : t.size = 200 → HasK t.row key := fun e => by
        by_cases hh : HasK t.row key
        · exact hh
        · exact absurd ⟨e, hh⟩ hin
      refine (trPut_is A B n m c d ns fs t key v W' (h.to hx).ar h.n1 h.m1 hU h.may h1 hk hin').mono fun e w' q => ?_
      have hp := put_le h1.srt (k := key) (v := v)
      have hle := h1.le
      have hlen : (putR t.row key v).length ≤ 200 := by
        have h2 := T.row_length t
        by_cases h3 : t.size = 200
        · have := put_same h1.srt (v := v) (hin' h3)
          omega
        · omega
      refine (q.tells (h1.srt.putR key v) hlen).mono fun A n B m s x hh => .inr ⟨⟨hk, by rw [T.row_length]; exact hin'⟩, ?_⟩
      rw [T.row_length]; exact hh
  · exact (trPut_far A B n m c d ns fs t key v W' (h.to hx).ar h.n1 h.m1 hU h.may h1 hk).mono fun e w' q => q.tells (.inl ⟨.inl hk, rfl, rfl⟩)
theorem del_may (h : Av W A n B m ns fs) (hM : MapV ns z l) (key : Int) : ∀ W', Ext W W' → Calls Try.prog 16 #[.agg #[.slice A n c, .slice B m d], .int .u64 z, .int .i64 key] W' (Tells W' fun W A n B m s x => DeV W A n B m s x ns fs l key) := by
  intro W' hx
  obtain ⟨t, h1, rfl, rfl, hU⟩ := hM
  by_cases hk : HasK t.row key
  · refine (trDel_is A B n m c d ns fs t key W' (h.to hx).ar h.n1 h.m1 hU h.may h1 hk).mono fun e w' q => ?_
    have hdl : (delR t.row key).length ≤ t.size := by rw [← T.row_length]; exact List.length_filter_le _ _
    refine (q.tells (h1.srt.filter _) (by have := h1.le; omega)).mono fun A n B m s x hh => .inr ⟨hk, ?_⟩
    rw [T.row_length]; exact hh
  · exact (trDel_none A B n m c d ns fs t key W' (h.to hx).ar h.n1 h.m1 hU h.may h1 hk).mono fun e w' q => q.tells (.inl ⟨hk, rfl, rfl⟩)
theorem join_may {z2 : Int} {l2 : Row} (h : Av W A n B m ns fs) (hM : MapV ns z l) (hM2 : MapV ns z2 l2) (hs : Srt (l ++ l2)) (hl : (l ++ l2).length ≤ 200) : ∀ W', Ext W W' → Calls Try.prog 24 #[.agg #[.slice A n c, .slice B m d], .int .u64 z, .int .u64 z2] W' (Tells W' fun W A n B m s x => MV W A n B m s x ns fs (l ++ l2).length (l ++ l2)) := by
  intro W' hx
  obtain ⟨t, h1, rfl, rfl, hU⟩ := hM
  obtain ⟨t2, h2, rfl, rfl, hU2⟩ := hM2
  have hl' := hl
  rw [List.length_append, T.row_length, T.row_length] at hl
  refine (trJoin_is A B n m c d ns fs t t2 W' (h.to hx).ar h.n1 h.m1 hU hU2 h.may h1 h2 (Srt.app.1 hs).2.2 hl).mono fun e w' q => ?_
  refine (q.tells hs hl').mono fun A n B m s x hh => ?_
  show MV _ _ _ _ _ _ _ _ _ _ _
  rw [List.length_append, T.row_length, T.row_length]; exact hh
theorem join_any {z2 : Int} {l2 : Row} (h : Av W A n B m ns fs) (hM : MapV ns z l) (hM2 : MapV ns z2 l2) (hl : l.length + l2.length ≤ 200) (hb : ∀ x ∈ l, ∀ y ∈ l2, y.1 < x.1) : ∀ W', Ext W W' → Calls Try.prog 24 #[.agg #[.slice A n c, .slice B m d], .int .u64 z, .int .u64 z2] W' (Tells W' fun _ _ _ _ _ _ x => l ≠ [] → l2 ≠ [] → x = 5) := by
  intro W' hx
  obtain ⟨t, h1, rfl, rfl, hU⟩ := hM
  obtain ⟨t2, h2, rfl, rfl, hU2⟩ := hM2
  rw [T.row_length, T.row_length] at hl
  by_cases hc : ∀ x ∈ t.row, ∀ y ∈ t2.row, x.1 < y.1
  · refine (trJoin_is A B n m c d ns fs t t2 W' (h.to hx).ar h.n1 h.m1 hU hU2 h.may h1 h2 hc hl).mono fun e w' q => ?_
    have hno : t.row ≠ [] → t2.row ≠ [] → False := fun e1 e2 => by
      obtain ⟨x, hx1⟩ := List.exists_mem_of_ne_nil _ e1
      obtain ⟨y, hy1⟩ := List.exists_mem_of_ne_nil _ e2
      have q1 := hc x hx1 y hy1
      have q2 := hb x hx1 y hy1
      omega
    obtain ⟨⟨rfl, hlt⟩ | ⟨A', n', c', B', m', d', ns', fs', z, rfl, _⟩, hx⟩ := q
    · exact ⟨_, _, _, _, _, _, _, _, rfl, fun e1 e2 => (hno e1 e2).elim, hx⟩
    · exact ⟨_, _, _, _, _, _, _, _, rfl, fun e1 e2 => (hno e1 e2).elim, hx⟩
  · exact (trJoin_no A B n m c d ns fs t t2 W' (h.to hx).ar h.n1 h.m1 hU hU2 h.may h1 h2 hc).mono fun e w' q => q.tells (fun _ _ => rfl)
def Tells4 (w : World) (R : World → Option Addr → Nat → Option Addr → Nat → Int → Int → Int → Prop) (e : Ending) (w' : World) : Prop :=
  ∃ (A : Option Addr) (n c : Nat) (B : Option Addr) (m d : Nat) (s t x : Int), e = .returned (.tuple #[.agg #[.slice A n c, .slice B m d], .int .u64 s, .int .u64 t, .int .i64 x]) ∧ R w' A n B m s t x ∧ Ext w w'
theorem split_may (h : Av W A n B m ns fs) (hM : MapV ns z l) (key : Int) : ∀ W', Ext W W' → Calls Try.prog 17 #[.agg #[.slice A n c, .slice B m d], .int .u64 z, .int .i64 key] W' (Tells4 W' fun W A n B m x y e => SpV W A n B m x y e ns fs l key) := by
  intro W' hx
  obtain ⟨t, h1, rfl, rfl, hU⟩ := hM
  refine (trSplit_is A B n m c d ns fs t key W' (h.to hx).ar h.n1 h.m1 hU h.may h1).mono ?_
  have hl := h1.le
  rw [← T.row_length] at hl
  have hl1 := lo_len t.row key
  have hl2 := ge_len t.row key
  rintro e w3 ⟨⟨rfl, hlt⟩ | ⟨A', n', c', B', m', d', ns', fs', z1, z2, rfl, hA3, hmay3, hG3, hU1, hU2, hI1, hI2⟩, hx3⟩
  · exact ⟨_, _, _, _, _, _, _, _, _, rfl, .inl ⟨rfl, rfl, rfl, by rw [T.row_length]; exact hlt⟩, hx3⟩
  · exact ⟨_, _, _, _, _, _, _, _, _, rfl, .inr ⟨rfl, ns', fs', ⟨hA3, hmay3⟩, by rw [T.row_length]; exact hG3, MapV.of hI1 (h1.srt.filter _) (by omega) hU1, MapV.of hI2 (h1.srt.filter _) (by omega) hU2⟩, hx3⟩
end

end Go.Proofs.Ytjiehlhnocgneaa
